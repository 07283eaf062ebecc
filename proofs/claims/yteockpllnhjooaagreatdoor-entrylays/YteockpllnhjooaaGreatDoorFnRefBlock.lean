/-
  Walk of newsreelref1.block: one block, the document's own way.
-/
import Derived.Test.YteockpllnhjooaaGreatDoorFnShaPad
import Derived.Test.YteockpllnhjooaaGreatDoorShaTab
import Derived.Test.YteockpllnhjooaaGreatDoorFnRefBig
import Derived.Test.YteockpllnhjooaaGreatDoorFnShaWrite
namespace Go.Proofs.YteockpllnhjooaaGreatDoor
open Go.RowKit NumMath
set_option maxRecDepth 100000
set_option linter.unusedVariables false
set_option linter.unusedSimpArgs false
attribute [-simp] Tryz.isAgg131 Tryz.sizeOf131 Tryz.zeroValue131 Tryz.isAgg113 Tryz.sizeOf113 Tryz.zeroValue113

theorem big_nat : ∀ (l : List Nat) (v : Nat), (ints l).foldl (fun v c => v * 256 + c) (v : Int) = ((l.foldl (fun v c => v * 256 + c) v : Nat) : Int)
  | [], v => rfl
  | c :: l, v => by
    show (ints l).foldl _ ((v : Int) * 256 + (c : Int)) = _
    rw [show (v : Int) * 256 + (c : Int) = ((v * 256 + c : Nat) : Int) by simp, big_nat l]
    rfl
/-- A table that is filled word by word. -/
def wordsUp (b : List Nat) (k : Nat) : List Nat := ShaMath.words b k ++ List.replicate (64 - k) 0
theorem wordsUp_len (b : List Nat) (k : Nat) (h : k ≤ 64) : (wordsUp b k).length = 64 := by simp [wordsUp, ShaMath.words_len]; omega
theorem wordsUp_step (b : List Nat) (k : Nat) (h : k < 64) : wordsUp b (k + 1) = (wordsUp b k).set k (ShaMath.word b k) := by
  unfold wordsUp
  rw [List.set_append_right _ _ (by rw [ShaMath.words_len]; exact Nat.le_refl _), ShaMath.words_len, Nat.sub_self, show 64 - k = (64 - (k + 1)) + 1 by omega, List.replicate_succ]
  simp [ShaMath.words, List.range_succ]

/-- The arrays of one block under way. -/
def Blk (w wr : World) (g5 g2 g4 : Nat) (A5 A2 A4 : List Value) : Prop := Arr wr g5 131 A5 ∧ Arr wr g2 113 A2 ∧ Arr wr g4 113 A4 ∧ Below w.heap.size w wr
theorem Blk.drewN {w wr : World} {g5 g2 g4 : Nat} {A5 A2 A4 : List Value} (h : Blk w wr g5 g2 g4 A5 A2 A4) (n : Nat) : Blk w (wr.drewN n) g5 g2 g4 A5 A2 A4 := ⟨h.1.drewN n, h.2.1.drewN n, h.2.2.1.drewN n, Below.drewN h.2.2.2 n⟩

set_option maxRecDepth 8000 in
set_option maxHeartbeats 4000000 in
theorem block_any (s : ShaMath.St) (bs : List Nat) (a : Option Addr) (cap : Nat) (w : World) (ht : RefTab w) (htl : 2 < w.heap.size) (hs : s.ok) (hl : bs.length = 64) (hb : ∀ c ∈ bs, c < 256) (hr : Row .u8 w a (ints bs)) (hc : 64 ≤ cap) (hm : cap ≤ maxLen) :
    Calls Tryz.prog 67 #[.agg (u32s s.list).toArray, .slice a 64 cap] w fun e w' => e = .returned (.agg (u32s (ShaMath.comp s bs).list).toArray) ∧ Below w.heap.size w w' := by
  unfold maxLen at hm
  obtain ⟨z58, i58⟩ := zero_of_info zero58
  obtain ⟨z47, i47⟩ := zero_of_info zero47
  obtain ⟨Sv, hSv⟩ : ∃ Sv, Sv = u32s s.list := ⟨_, rfl⟩
  obtain ⟨Z, hZ⟩ : ∃ Z, Z = u32s (List.replicate 64 0) := ⟨_, rfl⟩
  obtain ⟨Z8, hZ8⟩ : ∃ Z, Z = u32s (List.replicate 8 0) := ⟨_, rfl⟩
  rw [← hZ] at z58
  rw [← hZ8] at z47
  rw [← hSv]
  have HS : Hid (Sv = u32s s.list) := hSv
  have HZ : Hid (Z = u32s (List.replicate 64 0)) := hZ
  have HZ8 : Hid (Z8 = u32s (List.replicate 8 0)) := hZ8
  have HL : Hid (bs.length = 64) := hl
  have HT : Hid (RefTab w) := ht
  obtain ⟨b0, off, rfl, hcell⟩ : ∃ b off, a = some ⟨b, off, none⟩ ∧ ∀ i, i < (ints bs).length → w.cell? ⟨b, off + i, none⟩ = some (.int .u8 ((ints bs).getD i 0)) := by
    rcases hr with h | h
    · have := congrArg List.length h; rw [ints_len, hl] at this; simp at this
    · exact h
  have HC : Hid _ := hcell
  clear hZ hl i58 i47 hSv hZ8 ht hr hcell
  have HA2 : Hid (Arr (((w.alloc (Obj.cells Sv.toArray 113)).alloc (Obj.cells Z8.toArray 113)).alloc (Obj.cells Z.toArray 131)) w.heap.size 113 (u32s s.list)) := by rw [← HS.out]; exact ((Arr.new _ 113 Sv rfl).alloc _).alloc _
  have HA4 : Hid (Arr (((w.alloc (Obj.cells Sv.toArray 113)).alloc (Obj.cells Z8.toArray 113)).alloc (Obj.cells Z.toArray 131)) (w.heap.size + 1) 113 Z8) := (Arr.new _ 113 Z8 (by simp)).alloc _
  have HA5 : Hid (Arr (((w.alloc (Obj.cells Sv.toArray 113)).alloc (Obj.cells Z8.toArray 113)).alloc (Obj.cells Z.toArray 131)) (w.heap.size + 1 + 1) 131 (u32s (wordsUp bs 0))) := by
    show Arr _ _ _ _
    rw [show wordsUp bs 0 = List.replicate 64 0 from rfl, ← HZ.out]; exact Arr.new _ 131 Z (by simp)
  have HBl : Hid (Below w.heap.size w (((w.alloc (Obj.cells Sv.toArray 113)).alloc (Obj.cells Z8.toArray 113)).alloc (Obj.cells Z.toArray 131))) := (((Below.refl _ _).alloc (Nat.le_refl _) _).alloc (by simp) _).alloc (by simp; omega) _
  go_enter Tryz.func67, Tryz.ntmps67
  go_wp2_with fail
  generalize (((w.alloc (Obj.cells Sv.toArray 113)).alloc (Obj.cells Z8.toArray 113)).alloc (Obj.cells Z.toArray 131)) = w1 at *
  obtain ⟨g5, hg5⟩ : ∃ g, g = w.heap.size + 1 + 1 := ⟨_, rfl⟩
  obtain ⟨g4, hg4⟩ : ∃ g, g = w.heap.size + 1 := ⟨_, rfl⟩
  obtain ⟨g2, hg2⟩ : ∃ g, g = w.heap.size := ⟨_, rfl⟩
  have hgo : w.heap.size ≤ g2 ∧ g2 < g4 ∧ g4 < g5 := by omega
  rw [← hg5] at HA5 ⊢
  rw [← hg4] at HA4 ⊢
  rw [show Arr w1 w.heap.size 113 (u32s s.list) = Arr w1 g2 113 (u32s s.list) by rw [hg2]] at HA2
  rw [show Value.pointer (some { block := w.heap.size, off := 0 }) = Value.pointer (some { block := g2, off := 0 }) by rw [hg2]]
  have HG : Hid (w.heap.size ≤ g2 ∧ g2 < g4 ∧ g4 < g5) := hgo
  clear hg5 hg4 hg2 hgo
  go_loopw [6] (fun i wr => ∃ k : Nat, k ≤ 16 ∧ i = .int .i64 k ∧ Arr wr g5 131 (u32s (wordsUp bs k)) ∧ Arr wr g2 113 (u32s s.list) ∧ Arr wr g4 113 Z8 ∧ Below w.heap.size w wr) (fun i _ => 16 - (intOf i).toNat)
  case atStart => exact ⟨0, by omega, rfl, HA5.out, HA2.out, HA4.out, HBl.out⟩
  case round =>
    clear HA5 HA2 HA4 HBl
    obtain ⟨k, hk, rfl, h5, h2, h4, hBw⟩ := hrel
    by_cases hlt : k < 16
    · have hstep := wordsUp_step bs k (by omega)
      have hwl := ShaMath.word_lt bs k hb
      have hc5 := h5.cell32 k (by rw [wordsUp_len bs k (by omega)]; omega)
      have hf5 := h5.frozen k
      obtain ⟨k4, hk4, gk4⟩ : ∃ q : Nat, (4 : Int) * (k : Int) = (q : Int) ∧ q = 4 * k := ⟨4 * k, by omega, rfl⟩
      have hk4l : k4 ≤ 60 := by omega
      have hbig : ∀ w', Below w.heap.size w w' → Calls Tryz.prog 90 #[.slice (some ⟨b0, off + k4, none⟩) 4 (cap - k4)] w' fun e w2 => e = .returned (.int .u64 ((ShaMath.word bs k : Nat) : Int)) ∧ w2 = w' := by
        intro w' hB'
        have hrow : Row .u8 w' (some ⟨b0, off + k4, none⟩) (ints ((bs.drop k4).take 4)) := by
          refine .inr ⟨b0, off + k4, rfl, fun i hi => ?_⟩
          have hi4 : i < 4 := by rw [ints_len, List.length_take] at hi; omega
          have hlen := HL.out
          have hcc := HC.out (k4 + i) (by rw [ints_len, HL.out]; omega)
          rw [show off + k4 + i = off + (k4 + i) by omega, hB'.cell (World.block_lt_of_cell? w _ hcc), hcc]
          simp [ints, hi4]
        have := refBig_any (some ⟨b0, off + k4, none⟩) (ints ((bs.drop k4).take 4)) (cap - k4) w' hrow (ints_byte (fun c hc => hb c (ShaMath.mem_piece hc))) (by rw [ints_len, List.length_take]; omega) (by unfold maxLen; omega)
        rw [ints_len, List.length_take, List.length_drop, HL.out, show min 4 (64 - k4) = 4 by omega, List.take_of_length_le (by rw [ints_len, List.length_take]; omega)] at this
        have e : bigL (ints ((bs.drop k4).take 4)) = ((ShaMath.word bs k : Nat) : Int) := by
          have hbn := big_nat ((bs.drop k4).take 4) 0
          unfold ShaMath.word ShaMath.bigN
          rw [← gk4]
          exact hbn
        rw [e] at this
        exact this
      have HBG : Hid _ := hbig _ hBw
      generalize ShaMath.word bs k = X at *
      have HST : Hid _ := hstep
      have H5 : Hid _ := h5
      have H2 : Hid _ := h2
      have H4 : Hid _ := h4
      have hcapI : (k4 : Int) + 4 ≤ (cap : Int) := by omega
      have hcapne : ¬ cap = k4 := by omega
      clear hstep h5 h2 h4 hbig gk4
      go_wp2_with fail
      refine Calls.mono HBG.out ?_
      rintro e wz ⟨rfl, rfl⟩
      clear HBG
      go_wp2
      go_roundw
      case rel => exact ⟨k + 1, by omega, by go_num, by rw [HST.out, ← u32s_set]; exact Arr.set H5.out _ _, Arr.set_other H2.out _ (by simp; have := HG.out; omega) _, Arr.set_other H4.out _ (by simp; have := HG.out; omega) _, hBw.setCell (by simp; have := HG.out; omega) _⟩
      case measure => simp [intOf]; omega
    · obtain rfl : k = 16 := by omega
      rw [show wordsUp bs 16 = ShaMath.schedAt bs 16 from (ShaMath.schedAt_start bs).symm] at h5
      have HQ0 : Hid (Blk w wr g5 g2 g4 (u32s (ShaMath.schedAt bs 16)) (u32s s.list) Z8) := ⟨h5, h2, h4, hBw⟩
      clear h5 h2 h4 hBw hlt
      rw [show ((16 : Nat) : Int) = 16 from rfl]
      go_wp2_with fail
      go_loopw [7] (fun i wr => ∃ k : Nat, 16 ≤ k ∧ k ≤ 64 ∧ i = .int .i64 k ∧ Blk w wr g5 g2 g4 (u32s (ShaMath.schedAt bs k)) (u32s s.list) Z8) (fun i _ => 64 - (intOf i).toNat)
      case atStart => exact ⟨16, by omega, by omega, rfl, HQ0.out⟩
      case round =>
        clear HQ0
        obtain ⟨k, hk1, hk2, rfl, hQ⟩ := hrel
        by_cases hlt : k < 64
        · have h3 := hQ.1
          have hlen := ShaMath.schedAt_len bs k ⟨hk1, hk2⟩
          have hel := ShaMath.schedAt_lt bs k hb
          obtain ⟨k16, e16, f16⟩ : ∃ m : Nat, (k : Int) - 16 = m ∧ m = k - 16 := ⟨k - 16, by omega, rfl⟩
          obtain ⟨k15, e15, f15⟩ : ∃ m : Nat, (k : Int) - 15 = m ∧ m = k - 15 := ⟨k - 15, by omega, rfl⟩
          obtain ⟨k7, e7, f7⟩ : ∃ m : Nat, (k : Int) - 7 = m ∧ m = k - 7 := ⟨k - 7, by omega, rfl⟩
          obtain ⟨k2, e2, f2⟩ : ∃ m : Nat, (k : Int) - 2 = m ∧ m = k - 2 := ⟨k - 2, by omega, rfl⟩
          have c16 := Arr.cell32 h3 k16 (by omega)
          have c15 := Arr.cell32 h3 k15 (by omega)
          have c7 := Arr.cell32 h3 k7 (by omega)
          have c2 := Arr.cell32 h3 k2 (by omega)
          have hstep := fun x => ShaMath.schedAt_step bs k ⟨hk1, hlt⟩ x
          rw [← f16, ← f15, ← f7, ← f2] at hstep
          have b16 := ShaMath.getD_lt hel (by decide) k16
          have b15 := ShaMath.getD_lt hel (by decide) k15
          have b7 := ShaMath.getD_lt hel (by decide) k7
          have b2 := ShaMath.getD_lt hel (by decide) k2
          generalize (ShaMath.schedAt bs k)[k16]?.getD 0 = p16 at *
          generalize (ShaMath.schedAt bs k)[k15]?.getD 0 = p15 at *
          generalize (ShaMath.schedAt bs k)[k7]?.getD 0 = p7 at *
          generalize (ShaMath.schedAt bs k)[k2]?.getD 0 = p2 at *
          have HST : Hid _ := hstep
          have HQ0 : Hid _ := hQ
          have HLN : Hid _ := hlen
          have l16 : k16 < 64 := by omega
          have l15 : k15 < 64 := by omega
          have l7 : k7 < 64 := by omega
          have l2 : k2 < 64 := by omega
          clear hstep h3 hQ hlen hel f16 f15 f7 f2
          go_wp2_with fail
          go_region
          go_wp2_with fail
          have R1 : Hid (∀ w, _) := fun w => turn_any p15 7 w b15 (by decide) (by decide)
          have R2 : Hid (∀ w, _) := fun w => turn_any p15 18 w b15 (by decide) (by decide)
          have R3 : Hid (∀ w, _) := fun w => turn_any p2 17 w b2 (by decide) (by decide)
          have R4 : Hid (∀ w, _) := fun w => turn_any p2 19 w b2 (by decide) (by decide)
          have w16 : IntKind.i64.wrap (k16 : Int) = k16 := IntWalk.i64_in _ ⟨by omega, by omega⟩
          have m16 : (k16 : Int) < 64 := by omega
          have m7 : (k7 : Int) < 64 := by omega
          have mk : (k : Int) < 64 := by omega
          have w7 : IntKind.i64.wrap (k7 : Int) = k7 := IntWalk.i64_in _ ⟨by omega, by omega⟩
          have HQd : Hid (Blk w wr.drew.drew g5 g2 g4 (u32s (ShaMath.schedAt bs k)) (u32s s.list) Z8) := Blk.drewN HQ0.out 2
          refine wp_region_held_drew (S := fun w' => w'.cell? ⟨g5, k16, none⟩ = some (.int .u32 (p16 : Int)) ∧ w'.cell? ⟨g5, k7, none⟩ = some (.int .u32 (p7 : Int))) rfl ⟨c16, c7⟩ (fun hS => ?_)
          clear c16 c15 c7 c2 HQ0
          refine wpAnyH_take (i := 0) (v := ?_) rfl (by kernel_rfl) (by kernel_rfl) (by kernel_rfl) (fun _ _ _ h => h) (Or.inl ⟨by rfl, ?_⟩) hS ?_
          rotate_left 1
          · intro w hSw; (try dsimp only at hSw); go_simp <;> with_reducible rfl
          try simp only [List.getElem_toArray, List.getElem_cons_zero, List.getElem_cons_succ, Act.put, List.setIfInBounds_toArray, List.set_cons_zero, List.set_cons_succ]
          refine wpAnyH_take (i := 1) (v := ?_) rfl (by kernel_rfl) (by kernel_rfl) (by kernel_rfl) (fun _ _ _ h => h) (Or.inl ⟨by rfl, ?_⟩) hS ?_
          rotate_left 1
          · intro w hSw; (try dsimp only at hSw); go_simp <;> with_reducible rfl
          try simp only [List.getElem_toArray, List.getElem_cons_zero, List.getElem_cons_succ, Act.put, List.setIfInBounds_toArray, List.set_cons_zero, List.set_cons_succ]
          refine wpAnyH_take (i := 2) (v := ?_) rfl (by kernel_rfl) (by kernel_rfl) (by kernel_rfl) (fun _ _ _ h => h) (Or.inl ⟨by rfl, ?_⟩) hS ?_
          rotate_left 1
          · intro w hSw; (try dsimp only at hSw); go_simp <;> with_reducible rfl
          try simp only [List.getElem_toArray, List.getElem_cons_zero, List.getElem_cons_succ, Act.put, List.setIfInBounds_toArray, List.set_cons_zero, List.set_cons_succ]
          refine wpAnyH_take (i := 3) (v := ?_) rfl (by kernel_rfl) (by kernel_rfl) (by kernel_rfl) (fun _ _ _ h => h) (Or.inl ⟨by rfl, ?_⟩) hS ?_
          rotate_left 1
          · intro w hSw; (try dsimp only at hSw); go_simp <;> with_reducible rfl
          try simp only [List.getElem_toArray, List.getElem_cons_zero, List.getElem_cons_succ, Act.put, List.setIfInBounds_toArray, List.set_cons_zero, List.set_cons_succ]
          refine wpAnyH_take (i := 4) (v := ?_) rfl (by kernel_rfl) (by kernel_rfl) (by kernel_rfl) (fun _ _ _ h => h) (Or.inl ⟨by rfl, ?_⟩) hS ?_
          rotate_left 1
          · intro w hSw; (try dsimp only at hSw); go_simp <;> with_reducible rfl
          try simp only [List.getElem_toArray, List.getElem_cons_zero, List.getElem_cons_succ, Act.put, List.setIfInBounds_toArray, List.set_cons_zero, List.set_cons_succ]
          refine wpAnyH_take (i := 5) (v := ?_) rfl (by kernel_rfl) (by kernel_rfl) (by kernel_rfl) (fun _ _ _ h => h) (Or.inl ⟨by rfl, ?_⟩) hS ?_
          rotate_left 1
          · intro w hSw; (try dsimp only at hSw); go_simp <;> with_reducible rfl
          try simp only [List.getElem_toArray, List.getElem_cons_zero, List.getElem_cons_succ, Act.put, List.setIfInBounds_toArray, List.set_cons_zero, List.set_cons_succ]
          refine wpAnyH_take (i := 7) (v := ?_) rfl (by kernel_rfl) (by kernel_rfl) (by kernel_rfl) (fun _ _ _ h => h) (Or.inl ⟨by rfl, ?_⟩) hS ?_
          rotate_left 1
          · intro w hSw; (try dsimp only at hSw); go_simp <;> with_reducible rfl
          try simp only [List.getElem_toArray, List.getElem_cons_zero, List.getElem_cons_succ, Act.put, List.setIfInBounds_toArray, List.set_cons_zero, List.set_cons_succ]
          refine wpAnyH_take (i := 10) (v := ?_) rfl (by kernel_rfl) (by kernel_rfl) (by kernel_rfl) (fun _ _ _ h => h) (Or.inl ⟨by rfl, ?_⟩) hS ?_
          rotate_left 1
          · intro w hSw; (try dsimp only at hSw); go_simp <;> with_reducible rfl
          try simp only [List.getElem_toArray, List.getElem_cons_zero, List.getElem_cons_succ, Act.put, List.setIfInBounds_toArray, List.set_cons_zero, List.set_cons_succ]
          refine wpAnyH_take (i := 11) (v := ?_) rfl (by kernel_rfl) (by kernel_rfl) (by kernel_rfl) (fun _ _ _ h => h) (Or.inl ⟨by rfl, ?_⟩) hS ?_
          rotate_left 1
          · intro w hSw; (try dsimp only at hSw); go_simp <;> with_reducible rfl
          try simp only [List.getElem_toArray, List.getElem_cons_zero, List.getElem_cons_succ, Act.put, List.setIfInBounds_toArray, List.set_cons_zero, List.set_cons_succ]
          refine wpAnyH_take (i := 14) (v := ?_) rfl (by kernel_rfl) (by kernel_rfl) (by kernel_rfl) (fun _ _ _ h => h) (Or.inl ⟨by rfl, ?_⟩) hS ?_
          rotate_left 1
          · intro w hSw; (try dsimp only at hSw); go_simp <;> with_reducible rfl
          try simp only [List.getElem_toArray, List.getElem_cons_zero, List.getElem_cons_succ, Act.put, List.setIfInBounds_toArray, List.set_cons_zero, List.set_cons_succ]
          refine wpAnyH_take (i := 15) (v := ?_) rfl (by kernel_rfl) (by kernel_rfl) (by kernel_rfl) (fun _ _ _ h => h) (Or.inl ⟨by rfl, ?_⟩) hS ?_
          rotate_left 1
          · intro w hSw; (try dsimp only at hSw); go_simp <;> with_reducible rfl
          try simp only [List.getElem_toArray, List.getElem_cons_zero, List.getElem_cons_succ, Act.put, List.setIfInBounds_toArray, List.set_cons_zero, List.set_cons_succ]
          refine wpAnyH_take (i := 16) (v := ?_) rfl (by kernel_rfl) (by kernel_rfl) (by kernel_rfl) (fun _ _ _ h => h) (Or.inl ⟨by rfl, ?_⟩) hS ?_
          rotate_left 1
          · intro w hSw; (try dsimp only at hSw); go_simp <;> with_reducible rfl
          try simp only [List.getElem_toArray, List.getElem_cons_zero, List.getElem_cons_succ, Act.put, List.setIfInBounds_toArray, List.set_cons_zero, List.set_cons_succ]
          refine wpAnyH_take (i := 17) (v := ?_) rfl (by kernel_rfl) (by kernel_rfl) (by kernel_rfl) (fun _ _ _ h => h) (Or.inl ⟨by rfl, ?_⟩) hS ?_
          rotate_left 1
          · intro w hSw; (try dsimp only at hSw); go_simp <;> with_reducible rfl
          try simp only [List.getElem_toArray, List.getElem_cons_zero, List.getElem_cons_succ, Act.put, List.setIfInBounds_toArray, List.set_cons_zero, List.set_cons_succ]
          refine wpAnyH_take (i := 19) (v := ?_) rfl (by kernel_rfl) (by kernel_rfl) (by kernel_rfl) (fun _ _ _ h => h) (Or.inl ⟨by rfl, ?_⟩) hS ?_
          rotate_left 1
          · intro w hSw; (try dsimp only at hSw); go_simp <;> with_reducible rfl
          try simp only [List.getElem_toArray, List.getElem_cons_zero, List.getElem_cons_succ, Act.put, List.setIfInBounds_toArray, List.set_cons_zero, List.set_cons_succ]
          refine wpAnyH_take (i := 21) (v := ?_) rfl (by kernel_rfl) (by kernel_rfl) (by kernel_rfl) (fun _ _ _ h => h) (Or.inl ⟨by rfl, ?_⟩) hS ?_
          rotate_left 1
          · intro w hSw; (try dsimp only at hSw); go_simp <;> with_reducible rfl
          try simp only [List.getElem_toArray, List.getElem_cons_zero, List.getElem_cons_succ, Act.put, List.setIfInBounds_toArray, List.set_cons_zero, List.set_cons_succ]
          refine wpAnyH_take (i := 24) (v := ?_) rfl (by kernel_rfl) (by kernel_rfl) (by kernel_rfl) (fun _ _ _ h => h) (Or.inl ⟨by rfl, ?_⟩) hS ?_
          rotate_left 1
          · intro w hSw; (try dsimp only at hSw); go_simp <;> with_reducible rfl
          try simp only [List.getElem_toArray, List.getElem_cons_zero, List.getElem_cons_succ, Act.put, List.setIfInBounds_toArray, List.set_cons_zero, List.set_cons_succ]
          refine wpAnyH_take (i := 25) (v := ?_) rfl (by kernel_rfl) (by kernel_rfl) (by kernel_rfl) (fun _ _ _ h => h) (Or.inl ⟨by rfl, ?_⟩) hS ?_
          rotate_left 1
          · intro w hSw; (try dsimp only at hSw); go_simp <;> with_reducible rfl
          try simp only [List.getElem_toArray, List.getElem_cons_zero, List.getElem_cons_succ, Act.put, List.setIfInBounds_toArray, List.set_cons_zero, List.set_cons_succ]
          refine wpAnyH_ready (rs := [6]) (by kernel_rfl) (by simp) ?_
          refine AllReadyH.cons rfl (fun K hK => ?_) AllReadyH.nil
          go_simp
          refine Calls.mono (R1.out _) ?_
          rintro e wa ⟨rfl, mwa, hmwa⟩
          have HQwa : Hid (Blk w wa g5 g2 g4 (u32s (ShaMath.schedAt bs k)) (u32s s.list) Z8) := by rw [hmwa]; exact Blk.drewN HQd.out _
          have hS2 : wa.cell? ⟨g5, k16, none⟩ = some (.int .u32 (p16 : Int)) ∧ wa.cell? ⟨g5, k7, none⟩ = some (.int .u32 (p7 : Int)) := by rw [hmwa]; exact hS
          clear hmwa HQd
          refine hK.out _ _ hS2 (fun hS => ?_)
          clear hK K hS2
          try simp only [List.getElem_toArray, List.getElem_cons_zero, List.getElem_cons_succ, Act.put, List.setIfInBounds_toArray, List.set_cons_zero, List.set_cons_succ]
          refine wpAnyH_ready (rs := [8]) (by kernel_rfl) (by simp) ?_
          refine AllReadyH.cons rfl (fun K hK => ?_) AllReadyH.nil
          go_simp
          refine Calls.mono (R2.out _) ?_
          rintro e wb ⟨rfl, mwb, hmwb⟩
          have HQwb : Hid (Blk w wb g5 g2 g4 (u32s (ShaMath.schedAt bs k)) (u32s s.list) Z8) := by rw [hmwb]; exact Blk.drewN HQwa.out _
          have hS2 : wb.cell? ⟨g5, k16, none⟩ = some (.int .u32 (p16 : Int)) ∧ wb.cell? ⟨g5, k7, none⟩ = some (.int .u32 (p7 : Int)) := by rw [hmwb]; exact hS
          clear hmwb HQwa
          refine hK.out _ _ hS2 (fun hS => ?_)
          clear hK K hS2
          try simp only [List.getElem_toArray, List.getElem_cons_zero, List.getElem_cons_succ, Act.put, List.setIfInBounds_toArray, List.set_cons_zero, List.set_cons_succ]
          refine wpAnyH_take (i := 9) (v := ?_) rfl (by kernel_rfl) (by kernel_rfl) (by kernel_rfl) (fun _ _ _ h => h) (Or.inl ⟨by rfl, ?_⟩) hS ?_
          rotate_left 1
          · intro w hSw; (try dsimp only at hSw); go_simp <;> with_reducible rfl
          try simp only [List.getElem_toArray, List.getElem_cons_zero, List.getElem_cons_succ, Act.put, List.setIfInBounds_toArray, List.set_cons_zero, List.set_cons_succ]
          refine wpAnyH_take (i := 12) (v := ?_) rfl (by kernel_rfl) (by kernel_rfl) (by kernel_rfl) (fun _ _ _ h => h) (Or.inl ⟨by rfl, ?_⟩) hS ?_
          rotate_left 1
          · intro w hSw; (try dsimp only at hSw); go_simp <;> with_reducible rfl
          try simp only [List.getElem_toArray, List.getElem_cons_zero, List.getElem_cons_succ, Act.put, List.setIfInBounds_toArray, List.set_cons_zero, List.set_cons_succ]
          refine wpAnyH_take (i := 13) (v := ?_) rfl (by kernel_rfl) (by kernel_rfl) (by kernel_rfl) (fun _ _ _ h => h) (Or.inl ⟨by rfl, ?_⟩) hS ?_
          rotate_left 1
          · intro w hSw; (try dsimp only at hSw); go_simp <;> with_reducible rfl
          try simp only [List.getElem_toArray, List.getElem_cons_zero, List.getElem_cons_succ, Act.put, List.setIfInBounds_toArray, List.set_cons_zero, List.set_cons_succ]
          refine wpAnyH_take (i := 18) (v := ?_) rfl (by kernel_rfl) (by kernel_rfl) (by kernel_rfl) (fun _ _ _ h => h) (Or.inl ⟨by rfl, ?_⟩) hS ?_
          rotate_left 1
          · intro w hSw; (try dsimp only at hSw); go_simp <;> with_reducible rfl
          try simp only [List.getElem_toArray, List.getElem_cons_zero, List.getElem_cons_succ, Act.put, List.setIfInBounds_toArray, List.set_cons_zero, List.set_cons_succ]
          refine wpAnyH_ready (rs := [20]) (by kernel_rfl) (by simp) ?_
          refine AllReadyH.cons rfl (fun K hK => ?_) AllReadyH.nil
          go_simp
          refine Calls.mono (R3.out _) ?_
          rintro e wc ⟨rfl, mwc, hmwc⟩
          have HQwc : Hid (Blk w wc g5 g2 g4 (u32s (ShaMath.schedAt bs k)) (u32s s.list) Z8) := by rw [hmwc]; exact Blk.drewN HQwb.out _
          have hS2 : wc.cell? ⟨g5, k16, none⟩ = some (.int .u32 (p16 : Int)) ∧ wc.cell? ⟨g5, k7, none⟩ = some (.int .u32 (p7 : Int)) := by rw [hmwc]; exact hS
          clear hmwc HQwb
          refine hK.out _ _ hS2 (fun hS => ?_)
          clear hK K hS2
          try simp only [List.getElem_toArray, List.getElem_cons_zero, List.getElem_cons_succ, Act.put, List.setIfInBounds_toArray, List.set_cons_zero, List.set_cons_succ]
          refine wpAnyH_ready (rs := [22]) (by kernel_rfl) (by simp) ?_
          refine AllReadyH.cons rfl (fun K hK => ?_) AllReadyH.nil
          go_simp
          refine Calls.mono (R4.out _) ?_
          rintro e wd ⟨rfl, mwd, hmwd⟩
          have HQwd : Hid (Blk w wd g5 g2 g4 (u32s (ShaMath.schedAt bs k)) (u32s s.list) Z8) := by rw [hmwd]; exact Blk.drewN HQwc.out _
          have hS2 : wd.cell? ⟨g5, k16, none⟩ = some (.int .u32 (p16 : Int)) ∧ wd.cell? ⟨g5, k7, none⟩ = some (.int .u32 (p7 : Int)) := by rw [hmwd]; exact hS
          clear hmwd HQwc
          refine hK.out _ _ hS2 (fun hS => ?_)
          clear hK K hS2
          try simp only [List.getElem_toArray, List.getElem_cons_zero, List.getElem_cons_succ, Act.put, List.setIfInBounds_toArray, List.set_cons_zero, List.set_cons_succ]
          refine wpAnyH_take (i := 23) (v := ?_) rfl (by kernel_rfl) (by kernel_rfl) (by kernel_rfl) (fun _ _ _ h => h) (Or.inl ⟨by rfl, ?_⟩) hS ?_
          rotate_left 1
          · intro w hSw; (try dsimp only at hSw); go_simp <;> with_reducible rfl
          try simp only [List.getElem_toArray, List.getElem_cons_zero, List.getElem_cons_succ, Act.put, List.setIfInBounds_toArray, List.set_cons_zero, List.set_cons_succ]
          refine wpAnyH_take (i := 26) (v := ?_) rfl (by kernel_rfl) (by kernel_rfl) (by kernel_rfl) (fun _ _ _ h => h) (Or.inl ⟨by rfl, ?_⟩) hS ?_
          rotate_left 1
          · intro w hSw; (try dsimp only at hSw); go_simp <;> with_reducible rfl
          try simp only [List.getElem_toArray, List.getElem_cons_zero, List.getElem_cons_succ, Act.put, List.setIfInBounds_toArray, List.set_cons_zero, List.set_cons_succ]
          refine wpAnyH_take (i := 27) (v := ?_) rfl (by kernel_rfl) (by kernel_rfl) (by kernel_rfl) (fun _ _ _ h => h) (Or.inl ⟨by rfl, ?_⟩) hS ?_
          rotate_left 1
          · intro w hSw; (try dsimp only at hSw); go_simp <;> with_reducible rfl
          try simp only [List.getElem_toArray, List.getElem_cons_zero, List.getElem_cons_succ, Act.put, List.setIfInBounds_toArray, List.set_cons_zero, List.set_cons_succ]
          refine wpAnyH_take (i := 28) (v := ?_) rfl (by kernel_rfl) (by kernel_rfl) (by kernel_rfl) (fun _ _ _ h => h) (Or.inl ⟨by rfl, ?_⟩) hS ?_
          rotate_left 1
          · intro w hSw; (try dsimp only at hSw); go_simp <;> with_reducible rfl
          try simp only [List.getElem_toArray, List.getElem_cons_zero, List.getElem_cons_succ, Act.put, List.setIfInBounds_toArray, List.set_cons_zero, List.set_cons_succ]
          refine wpAnyH_ready (rs := [29]) (by kernel_rfl) (by simp) ?_
          refine AllReadyH.cons rfl (fun K hK => ?_) AllReadyH.nil
          have hne16 : k ≠ k16 := by omega
          have hne7 : k ≠ k7 := by omega
          have ck := HQwd.out.1.cell32 k (by rw [HLN.out]; exact hlt)
          have hfz := HQwd.out.1.frozen k
          go_simp
          rw [sched_val' p16 p15 p7 p2 b15 b2]
          have hset := fun (x : Nat) => HQwd.out.1.set k (.int .u32 (x : Int))
          have hst2 := HST.out _ rfl
          generalize (p16 + ShaMath.small0 p15 + p7 + ShaMath.small1 p2) % 4294967296 = X at *
          have HSX := hset X
          rw [u32s_set, ← hst2] at HSX
          have HQN : Hid (Blk w (wd.setCell ⟨g5, k, none⟩ (.int .u32 (X : Int))) g5 g2 g4 (u32s (ShaMath.schedAt bs (k + 1))) (u32s s.list) Z8) := ⟨HSX, Arr.set_other HQwd.out.2.1 _ (by show g2 ≠ g5; have := HG.out; omega) _, Arr.set_other HQwd.out.2.2.1 _ (by show g4 ≠ g5; have := HG.out; omega) _, HQwd.out.2.2.2.setCell (by show w.heap.size ≤ g5; have := HG.out; omega) _⟩
          clear hset hst2 HSX HST R1 R2 R3 R4
          refine hK.out _ _ ⟨?_, ?_⟩ (fun hS => ?_)
          · rw [World.cell?_setCell_other _ _ _ _ (by intro e; injection e; omega)]; exact hS.1
          · rw [World.cell?_setCell_other _ _ _ _ (by intro e; injection e; omega)]; exact hS.2
          clear hK K
          try simp only [List.getElem_toArray, List.getElem_cons_zero, List.getElem_cons_succ, Act.put, List.setIfInBounds_toArray, List.set_cons_zero, List.set_cons_succ]
          refine wpAnyH_done (by kernel_rfl) ?_ _
          clear hS ck hfz
          generalize wd.setCell ⟨g5, k, none⟩ (.int .u32 (X : Int)) = we at *
          go_wp2
          go_roundw
          case rel => exact ⟨k + 1, by omega, by omega, by go_num, HQN.out⟩
          case measure => simp [intOf]; omega
        · obtain rfl : k = 64 := by omega
          rw [ShaMath.schedAt_end] at hQ
          have HQ : Hid _ := hQ
          have HS8 : Hid ((u32s s.list).length = 8) := by show _ = _; rw [u32s_len]; rfl
          have HZ8l : Hid (Z8.length = 8) := by show _ = _; rw [HZ8.out, u32s_len]; simp
          have HO8 : Hid _ := u32s_one s.list
          have H2r : Hid (Arr wr g2 113 Sv) := by rw [HS.out]; exact hQ.2.1
          rw [← HS.out] at HS8 HO8
          clear hQ hlt
          rw [show ((64 : Nat) : Int) = 64 from rfl]
          go_wp2_with (first
            | (refine wpList_load_mid rfl 113 (.tmp 2) rfl g2 0 rfl Sv (.array 8 112) (range_of_arr H2r.out) Tryz.underlying113 rfl (by rw [HS8.out]; exact size47) ?_)
            | (refine wpList_store_arr rfl 113 (.tmp 10) (.tmp 73) rfl wr.heap.size 113 Z8 Sv rfl rfl (Arr.new wr 113 Z8 rfl) (by rw [HS8.out]; exact size47) (by rw [HZ8l.out, HS8.out]) HO8.out ?_))
          have HQ2 : Hid (Blk w ((wr.alloc (Obj.cells Z8.toArray 113)).setRow wr.heap.size Sv.toArray) g5 g2 g4 (u32s (ShaMath.sched bs)) (u32s s.list) Z8 ∧ Arr ((wr.alloc (Obj.cells Z8.toArray 113)).setRow wr.heap.size Sv.toArray) wr.heap.size 113 (u32s s.list) ∧ g5 < wr.heap.size) := by
            obtain ⟨q1, q2, q3, q4⟩ := HQ.out
            refine ⟨⟨(q1.alloc _).row_other _ (by have := q1.lt; omega), (q2.alloc _).row_other _ (by have := q2.lt; omega), (q3.alloc _).row_other _ (by have := q3.lt; omega), below_setRow (q4.alloc q4.size _) q4.size _⟩, ?_, q1.lt⟩
            rw [← HS.out]; exact Arr.row (Arr.new wr 113 Z8 rfl)
          obtain ⟨g10, hg10⟩ : ∃ g, g = wr.heap.size := ⟨_, rfl⟩
          rw [← hg10] at HQ2 ⊢
          clear hg10 HQ H2r
          generalize ((wr.alloc (Obj.cells Z8.toArray 113)).setRow g10 Sv.toArray) = w3 at *
          clear z47
          go_loopw [11] (fun i wr => ∃ k : Nat, k ≤ 64 ∧ i = .int .i64 k ∧ Blk w wr g5 g2 g4 (u32s (ShaMath.sched bs)) (u32s s.list) Z8 ∧ Arr wr g10 113 (u32s (ShaMath.rounds k s ShaMath.keys (ShaMath.sched bs)).list)) (fun i _ => 64 - (intOf i).toNat)
          case atStart => exact ⟨0, by omega, rfl, HQ2.out.1, HQ2.out.2.1⟩
          case round =>
            have hg10 := HQ2.out.2.2
            clear HQ2
            obtain ⟨k, hk, rfl, hQ, h10⟩ := hrel
            have hSok := ShaMath.rounds_ok k s ShaMath.keys (ShaMath.sched bs) hs
            by_cases hlt : k < 64
            · have hsnoc := ShaMath.rounds_snoc k s ShaMath.keys (ShaMath.sched bs) (by rw [keys_len]; exact hlt) (by rw [ShaMath.sched_len]; exact hlt)
              have cK := (HT.out.later hQ.2.2.2 htl) k hlt
              have cW := Arr.cell32 hQ.1 k (by rw [ShaMath.sched_len]; exact hlt)
              generalize ShaMath.keys[k]?.getD 0 = KK at *
              generalize (ShaMath.sched bs)[k]?.getD 0 = X at *
              generalize ShaMath.rounds k s ShaMath.keys (ShaMath.sched bs) = S at *
              have v0 : wr.cell? ⟨g10, 0, none⟩ = some (.int .u32 (S.a : Int)) := Arr.cell32 h10 0 (by rw [list8]; decide)
              have v1 : wr.cell? ⟨g10, 1, none⟩ = some (.int .u32 (S.b : Int)) := Arr.cell32 h10 1 (by rw [list8]; decide)
              have v2 : wr.cell? ⟨g10, 2, none⟩ = some (.int .u32 (S.c : Int)) := Arr.cell32 h10 2 (by rw [list8]; decide)
              have v3 : wr.cell? ⟨g10, 3, none⟩ = some (.int .u32 (S.d : Int)) := Arr.cell32 h10 3 (by rw [list8]; decide)
              have v4 : wr.cell? ⟨g10, 4, none⟩ = some (.int .u32 (S.e : Int)) := Arr.cell32 h10 4 (by rw [list8]; decide)
              have v5 : wr.cell? ⟨g10, 5, none⟩ = some (.int .u32 (S.f : Int)) := Arr.cell32 h10 5 (by rw [list8]; decide)
              have v6 : wr.cell? ⟨g10, 6, none⟩ = some (.int .u32 (S.g : Int)) := Arr.cell32 h10 6 (by rw [list8]; decide)
              have v7 : wr.cell? ⟨g10, 7, none⟩ = some (.int .u32 (S.h : Int)) := Arr.cell32 h10 7 (by rw [list8]; decide)
              obtain ⟨x43, x46, x48, x50, x51, x52, x56, x60, x65, x68, x69, x72, x73, x74, x77, x83, ⟨e43, f43⟩, e46, ⟨e48, f48⟩, e50, e51, ⟨e52, f52⟩, ⟨e56, f56⟩, ⟨e60, f60⟩, e65, e68, e69, e72, e73, ⟨e74, f74⟩, ⟨e77, f77⟩, ⟨e83, f83⟩, hround, l60, l74⟩ := round_steps S KK X hSok
              obtain ⟨sa, sb, sc, sd, se, sf, sg, sh⟩ := hSok
              have HRD : Hid _ := hsnoc.trans hround
              have T6 : Hid (∀ w, Calls Tryz.prog 91 #[.int .u32 (S.e : Int), .int .i64 6] w fun e w' => e = .returned (.int .u32 (ShaMath.rotr S.e 6 : Nat)) ∧ ∃ m, w' = w.drewN m) := fun w => turn_any S.e 6 w se (by decide) (by decide)
              have T11 : Hid (∀ w, Calls Tryz.prog 91 #[.int .u32 (S.e : Int), .int .i64 11] w fun e w' => e = .returned (.int .u32 (ShaMath.rotr S.e 11 : Nat)) ∧ ∃ m, w' = w.drewN m) := fun w => turn_any S.e 11 w se (by decide) (by decide)
              have T25 : Hid (∀ w, Calls Tryz.prog 91 #[.int .u32 (S.e : Int), .int .i64 25] w fun e w' => e = .returned (.int .u32 (ShaMath.rotr S.e 25 : Nat)) ∧ ∃ m, w' = w.drewN m) := fun w => turn_any S.e 25 w se (by decide) (by decide)
              have T2 : Hid (∀ w, Calls Tryz.prog 91 #[.int .u32 (S.a : Int), .int .i64 2] w fun e w' => e = .returned (.int .u32 (ShaMath.rotr S.a 2 : Nat)) ∧ ∃ m, w' = w.drewN m) := fun w => turn_any S.a 2 w sa (by decide) (by decide)
              have T13 : Hid (∀ w, Calls Tryz.prog 91 #[.int .u32 (S.a : Int), .int .i64 13] w fun e w' => e = .returned (.int .u32 (ShaMath.rotr S.a 13 : Nat)) ∧ ∃ m, w' = w.drewN m) := fun w => turn_any S.a 13 w sa (by decide) (by decide)
              have T22 : Hid (∀ w, Calls Tryz.prog 91 #[.int .u32 (S.a : Int), .int .i64 22] w fun e w' => e = .returned (.int .u32 (ShaMath.rotr S.a 22 : Nat)) ∧ ∃ m, w' = w.drewN m) := fun w => turn_any S.a 22 w sa (by decide) (by decide)
              have r6 := rotr_lt S.e 6 se
              have r11 := rotr_lt S.e 11 se
              have r25 := rotr_lt S.e 25 se
              have r2 := rotr_lt S.a 2 sa
              have r13 := rotr_lt S.a 13 sa
              have r22 := rotr_lt S.a 22 sa
              obtain ⟨x88, e88, g88⟩ := xorw (ShaMath.rotr S.e 6) (ShaMath.rotr S.e 11) r6 r11
              have l88 : x88 < 4294967296 := by rw [g88]; exact xor_lt32 r6 r11
              have e91 : bits .xor .u32 (x88 : Int) (ShaMath.rotr S.e 25 : Nat) = ((ShaMath.big1 S.e : Nat) : Int) := by rw [u32_xor_nat _ _ l88 r25, g88]; rfl
              obtain ⟨x116, e116, g116⟩ := xorw (ShaMath.rotr S.a 2) (ShaMath.rotr S.a 13) r2 r13
              have l116 : x116 < 4294967296 := by rw [g116]; exact xor_lt32 r2 r13
              have e119 : bits .xor .u32 (x116 : Int) (ShaMath.rotr S.a 22 : Nat) = ((ShaMath.big0 S.a : Nat) : Int) := by rw [u32_xor_nat _ _ l116 r22, g116]; rfl
              clear g88 g116 l88 l116 r6 r11 r25 r2 r13 r22
              generalize ShaMath.rotr S.e 6 = q6 at *
              generalize ShaMath.rotr S.e 11 = q11 at *
              generalize ShaMath.rotr S.e 25 = q25 at *
              generalize ShaMath.rotr S.a 2 = q2 at *
              generalize ShaMath.rotr S.a 13 = q13 at *
              generalize ShaMath.rotr S.a 22 = q22 at *
              generalize ShaMath.big1 S.e = B1 at *
              generalize ShaMath.big0 S.a = B0 at *
              have HQ : Hid _ := hQ
              have H10 : Hid _ := h10
              have hkI : (k : Int) < 64 := by omega
              have E1 : Hid (bits .and .u32 (S.a : Int) S.b = x65 ∧ bits .and .u32 (S.a : Int) S.c = x68 ∧ bits .xor .u32 (x65 : Int) x68 = x69 ∧ bits .and .u32 (S.b : Int) S.c = x72 ∧ bits .xor .u32 (x69 : Int) x72 = x73 ∧ IntKind.u32.wrap ((B0 : Int) + x73) = x74) := ⟨e65, e68, e69, e72, e73, e74⟩
              have E2 : Hid (bits .xor .u32 (q2 : Int) q13 = x116 ∧ bits .xor .u32 (x116 : Int) q22 = B0) := ⟨e116, e119⟩
              have E3 : Hid ((IntKind.u32.wrap ((x60 : Int) + x74) = x77 ∧ ((x60 : Int) + x74) % 4294967296 = x77) ∧ (IntKind.u32.wrap ((S.d : Int) + x60) = x83 ∧ ((S.d : Int) + x60) % 4294967296 = x83)) := ⟨⟨e77, f77⟩, ⟨e83, f83⟩⟩
              clear hround hsnoc hQ h10 f43 f48 f52 f56 f60 e65 e68 e69 e72 e73 e74 f74 e77 f77 e83 f83 e116 e119
              go_wp2_with fail
              go_quiet (fail)
              obtain ⟨wq1, hwq1⟩ : ∃ x, x = wr.drewN nq := ⟨_, rfl⟩
              rw [← hwq1]
              replace v0 : wq1.cell? ⟨g10, 0, none⟩ = some (.int .u32 (S.a : Int)) := by rw [hwq1]; exact v0
              replace v1 : wq1.cell? ⟨g10, 1, none⟩ = some (.int .u32 (S.b : Int)) := by rw [hwq1]; exact v1
              replace v2 : wq1.cell? ⟨g10, 2, none⟩ = some (.int .u32 (S.c : Int)) := by rw [hwq1]; exact v2
              replace v3 : wq1.cell? ⟨g10, 3, none⟩ = some (.int .u32 (S.d : Int)) := by rw [hwq1]; exact v3
              replace v4 : wq1.cell? ⟨g10, 4, none⟩ = some (.int .u32 (S.e : Int)) := by rw [hwq1]; exact v4
              replace v5 : wq1.cell? ⟨g10, 5, none⟩ = some (.int .u32 (S.f : Int)) := by rw [hwq1]; exact v5
              replace v6 : wq1.cell? ⟨g10, 6, none⟩ = some (.int .u32 (S.g : Int)) := by rw [hwq1]; exact v6
              replace v7 : wq1.cell? ⟨g10, 7, none⟩ = some (.int .u32 (S.h : Int)) := by rw [hwq1]; exact v7
              replace cK : wq1.cell? ⟨1, k, none⟩ = some (.int .u32 (KK : Int)) := by rw [hwq1]; exact cK
              replace cW : wq1.cell? ⟨g5, k, none⟩ = some (.int .u32 (X : Int)) := by rw [hwq1]; exact cW
              replace HQ : Hid (Blk w wq1 g5 g2 g4 (u32s (ShaMath.sched bs)) (u32s s.list) Z8) := by rw [hwq1]; exact Blk.drewN HQ.out _
              replace H10 : Hid (Arr wq1 g10 113 (u32s S.list)) := by rw [hwq1]; exact Arr.drewN H10.out _
              clear hwq1
              go_wp2_with fail
              go_quiet (first | with_reducible exact Calls.quiet_of (T6.out _) | with_reducible exact Calls.quiet_of (T11.out _) | with_reducible exact Calls.quiet_of (T25.out _))
              clear cK cW e43 e46 e48 e50 e51 e52 e56 e60 e88 e91 T6 T11 T25
              obtain ⟨wq2, hwq2⟩ : ∃ x, x = wq1.drewN nq := ⟨_, rfl⟩
              rw [← hwq2]
              replace v0 : wq2.cell? ⟨g10, 0, none⟩ = some (.int .u32 (S.a : Int)) := by rw [hwq2]; exact v0
              replace v1 : wq2.cell? ⟨g10, 1, none⟩ = some (.int .u32 (S.b : Int)) := by rw [hwq2]; exact v1
              replace v2 : wq2.cell? ⟨g10, 2, none⟩ = some (.int .u32 (S.c : Int)) := by rw [hwq2]; exact v2
              replace v3 : wq2.cell? ⟨g10, 3, none⟩ = some (.int .u32 (S.d : Int)) := by rw [hwq2]; exact v3
              replace v4 : wq2.cell? ⟨g10, 4, none⟩ = some (.int .u32 (S.e : Int)) := by rw [hwq2]; exact v4
              replace v5 : wq2.cell? ⟨g10, 5, none⟩ = some (.int .u32 (S.f : Int)) := by rw [hwq2]; exact v5
              replace v6 : wq2.cell? ⟨g10, 6, none⟩ = some (.int .u32 (S.g : Int)) := by rw [hwq2]; exact v6
              replace v7 : wq2.cell? ⟨g10, 7, none⟩ = some (.int .u32 (S.h : Int)) := by rw [hwq2]; exact v7
              replace HQ : Hid (Blk w wq2 g5 g2 g4 (u32s (ShaMath.sched bs)) (u32s s.list) Z8) := by rw [hwq2]; exact Blk.drewN HQ.out _
              replace H10 : Hid (Arr wq2 g10 113 (u32s S.list)) := by rw [hwq2]; exact Arr.drewN H10.out _
              clear hwq2
              obtain ⟨e65, e68, e69, e72, e73, e74⟩ := E1.out
              obtain ⟨e116, e119⟩ := E2.out
              go_wp2_with fail
              go_quiet (first | with_reducible exact Calls.quiet_of (T2.out _) | with_reducible exact Calls.quiet_of (T13.out _) | with_reducible exact Calls.quiet_of (T22.out _))
              clear e65 e68 e69 e72 e73 e74 e116 e119 T2 T13 T22
              obtain ⟨wq3, hwq3⟩ : ∃ x, x = wq2.drewN nq := ⟨_, rfl⟩
              rw [← hwq3]
              replace v0 : wq3.cell? ⟨g10, 0, none⟩ = some (.int .u32 (S.a : Int)) := by rw [hwq3]; exact v0
              replace v1 : wq3.cell? ⟨g10, 1, none⟩ = some (.int .u32 (S.b : Int)) := by rw [hwq3]; exact v1
              replace v2 : wq3.cell? ⟨g10, 2, none⟩ = some (.int .u32 (S.c : Int)) := by rw [hwq3]; exact v2
              replace v3 : wq3.cell? ⟨g10, 3, none⟩ = some (.int .u32 (S.d : Int)) := by rw [hwq3]; exact v3
              replace v4 : wq3.cell? ⟨g10, 4, none⟩ = some (.int .u32 (S.e : Int)) := by rw [hwq3]; exact v4
              replace v5 : wq3.cell? ⟨g10, 5, none⟩ = some (.int .u32 (S.f : Int)) := by rw [hwq3]; exact v5
              replace v6 : wq3.cell? ⟨g10, 6, none⟩ = some (.int .u32 (S.g : Int)) := by rw [hwq3]; exact v6
              replace v7 : wq3.cell? ⟨g10, 7, none⟩ = some (.int .u32 (S.h : Int)) := by rw [hwq3]; exact v7
              replace HQ : Hid (Blk w wq3 g5 g2 g4 (u32s (ShaMath.sched bs)) (u32s s.list) Z8) := by rw [hwq3]; exact Blk.drewN HQ.out _
              replace H10 : Hid (Arr wq3 g10 113 (u32s S.list)) := by rw [hwq3]; exact Arr.drewN H10.out _
              clear hwq3
              obtain ⟨⟨e77, f77⟩, ⟨e83, f83⟩⟩ := E3.out
              have z47 := Tryz.zeroValue113
              have HNl : Hid ((u32s (ShaMath.St.list ⟨x77, S.a, S.b, S.c, x83, S.e, S.f, S.g⟩)).length = 8) := by show _ = _; rw [u32s_len]; rfl
              have HNo : Hid _ := u32s_one (ShaMath.St.list ⟨x77, S.a, S.b, S.c, x83, S.e, S.f, S.g⟩)
              have H10l : Hid ((u32s S.list).length = 8) := by show _ = _; rw [u32s_len]; rfl
              go_wp2_with (refine wpList_store_arr rfl 113 (.tmp 10) (.tmp 153) rfl g10 113 (u32s S.list) (u32s (ShaMath.St.list ⟨x77, S.a, S.b, S.c, x83, S.e, S.f, S.g⟩)) rfl rfl H10.out (by rw [HNl.out]; exact size47) (by rw [H10l.out, HNl.out]) HNo.out ?_)
              have HQN : Hid (Blk w (wq3.setRow g10 (u32s (ShaMath.St.list ⟨x77, S.a, S.b, S.c, x83, S.e, S.f, S.g⟩)).toArray) g5 g2 g4 (u32s (ShaMath.sched bs)) (u32s s.list) Z8) := by
                obtain ⟨q1, q2, q3, q4⟩ := HQ.out
                have := HG.out
                exact ⟨q1.row_other _ (by omega), q2.row_other _ (by omega), q3.row_other _ (by omega), below_setRow q4 (by omega) _⟩
              have H10N : Hid (Arr (wq3.setRow g10 (u32s (ShaMath.St.list ⟨x77, S.a, S.b, S.c, x83, S.e, S.f, S.g⟩)).toArray) g10 113 (u32s (ShaMath.rounds (k + 1) s ShaMath.keys (ShaMath.sched bs)).list)) := by
                rw [HRD.out]; exact Arr.row H10.out
              generalize wq3.setRow g10 (u32s (ShaMath.St.list ⟨x77, S.a, S.b, S.c, x83, S.e, S.f, S.g⟩)).toArray = wq4 at *
              clear v0 v1 v2 v3 v4 v5 v6 v7 e77 f77 e83 f83 z47
              go_roundw
              case rel => exact ⟨k + 1, by omega, by go_num, HQN.out, H10N.out⟩
              case measure => simp [intOf]; omega
            · obtain rfl : k = 64 := by omega
              obtain ⟨V, hV⟩ : ∃ V, V = ShaMath.rounds 64 s ShaMath.keys (ShaMath.sched bs) := ⟨_, rfl⟩
              rw [← hV] at hSok h10
              have HV : Hid (ShaMath.comp s bs = ShaMath.addS s V) := by show _ = _; rw [hV]; rfl
              have HQ : Hid _ := hQ
              have H10 : Hid _ := h10
              clear hV hQ h10 hlt
              rw [show ((64 : Nat) : Int) = 64 from rfl]
              go_wp2_with fail
              go_loopw [16] (fun i wr => ∃ k : Nat, k ≤ 8 ∧ i = .int .i64 k ∧ Arr wr g2 113 (u32s (addAt s V k)) ∧ Arr wr g4 113 Z8 ∧ Arr wr g10 113 (u32s V.list) ∧ Below w.heap.size w wr) (fun i _ => 8 - (intOf i).toNat)
              case atStart => exact ⟨0, by omega, rfl, HQ.out.2.1, HQ.out.2.2.1, H10.out, HQ.out.2.2.2⟩
              case round =>
                clear HQ H10
                obtain ⟨k, hk, rfl, h2, h4, h10, hBw2⟩ := hrel
                by_cases hlt : k < 8
                · have hstep := addAt_step s V k hlt
                  have hcell := Arr.cell32 h2 k (by rw [addAt_len s V k (by omega)]; exact hlt)
                  rw [addAt_get s V k hlt] at hcell
                  have hc10 := Arr.cell32 h10 k (by rw [list8]; exact hlt)
                  have hfz := h2.frozen k
                  obtain ⟨x, ex, fx, gx⟩ := addw (s.list[k]?.getD 0) (V.list[k]?.getD 0)
                  rw [← gx] at hstep
                  generalize s.list[k]?.getD 0 = p at *
                  generalize V.list[k]?.getD 0 = q at *
                  have HST : Hid _ := hstep
                  have H2 : Hid _ := h2
                  have H4 : Hid _ := h4
                  have H10 : Hid _ := h10
                  have hkI : (k : Int) < 8 := by omega
                  clear hstep h2 h4 h10 gx
                  go_wp2_with fail
                  refine wp_region_held_drew (S := fun w' => w'.cell? ⟨g10, k, none⟩ = some (.int .u32 (q : Int))) rfl hc10 (fun hS => ?_)
                  refine wpAnyH_take (i := 0) (v := ?_) rfl (by kernel_rfl) (by kernel_rfl) (by kernel_rfl) (fun _ _ _ h => h) (Or.inl ⟨by rfl, ?_⟩) hS ?_
                  rotate_left 1
                  · intro w hSw; (try dsimp only at hSw); go_simp <;> with_reducible rfl
                  try simp only [List.getElem_toArray, List.getElem_cons_zero, List.getElem_cons_succ, Act.put, List.setIfInBounds_toArray, List.set_cons_zero, List.set_cons_succ]
                  refine wpAnyH_take (i := 1) (v := ?_) rfl (by kernel_rfl) (by kernel_rfl) (by kernel_rfl) (fun _ _ _ h => h) (Or.inl ⟨by rfl, ?_⟩) hS ?_
                  rotate_left 1
                  · intro w hSw; (try dsimp only at hSw); go_simp <;> with_reducible rfl
                  try simp only [List.getElem_toArray, List.getElem_cons_zero, List.getElem_cons_succ, Act.put, List.setIfInBounds_toArray, List.set_cons_zero, List.set_cons_succ]
                  refine wpAnyH_take (i := 3) (v := ?_) rfl (by kernel_rfl) (by kernel_rfl) (by kernel_rfl) (fun _ _ _ h => h) (Or.inl ⟨by rfl, ?_⟩) hS ?_
                  rotate_left 1
                  · intro w hSw; (try dsimp only at hSw); go_simp <;> with_reducible rfl
                  try simp only [List.getElem_toArray, List.getElem_cons_zero, List.getElem_cons_succ, Act.put, List.setIfInBounds_toArray, List.set_cons_zero, List.set_cons_succ]
                  refine wpAnyH_take (i := 4) (v := ?_) rfl (by kernel_rfl) (by kernel_rfl) (by kernel_rfl) (fun _ _ _ h => h) (Or.inl ⟨by rfl, ?_⟩) hS ?_
                  rotate_left 1
                  · intro w hSw; (try dsimp only at hSw); go_simp <;> with_reducible rfl
                  try simp only [List.getElem_toArray, List.getElem_cons_zero, List.getElem_cons_succ, Act.put, List.setIfInBounds_toArray, List.set_cons_zero, List.set_cons_succ]
                  refine wpAnyH_take (i := 5) (v := ?_) rfl (by kernel_rfl) (by kernel_rfl) (by kernel_rfl) (fun _ _ _ h => h) (Or.inl ⟨by rfl, ?_⟩) hS ?_
                  rotate_left 1
                  · intro w hSw; (try dsimp only at hSw); go_simp <;> with_reducible rfl
                  try simp only [List.getElem_toArray, List.getElem_cons_zero, List.getElem_cons_succ, Act.put, List.setIfInBounds_toArray, List.set_cons_zero, List.set_cons_succ]
                  refine wpAnyH_ready (rs := [2]) (by kernel_rfl) (by simp) ?_
                  refine AllReadyH.cons rfl (fun K hK => ?_) AllReadyH.nil
                  have hcell' : wr.drew.cell? ⟨g2, k, none⟩ = some (.int .u32 (p : Int)) := hcell
                  have hfz' : wr.drew.frozen? ⟨g2, k, none⟩ = false := hfz
                  go_simp
                  refine hK.out _ _ hS (fun hS => ?_)
                  clear hK K
                  try simp only [List.getElem_toArray, List.getElem_cons_zero, List.getElem_cons_succ, Act.put, List.setIfInBounds_toArray, List.set_cons_zero, List.set_cons_succ]
                  refine wpAnyH_take (i := 6) (v := ?_) rfl (by kernel_rfl) (by kernel_rfl) (by kernel_rfl) (fun _ _ _ h => h) (Or.inl ⟨by rfl, ?_⟩) hS ?_
                  rotate_left 1
                  · intro w hSw; (try dsimp only at hSw); go_simp <;> with_reducible rfl
                  try simp only [List.getElem_toArray, List.getElem_cons_zero, List.getElem_cons_succ, Act.put, List.setIfInBounds_toArray, List.set_cons_zero, List.set_cons_succ]
                  refine wpAnyH_take (i := 7) (v := ?_) rfl (by kernel_rfl) (by kernel_rfl) (by kernel_rfl) (fun _ _ _ h => h) (Or.inl ⟨by rfl, ?_⟩) hS ?_
                  rotate_left 1
                  · intro w hSw; (try dsimp only at hSw); go_simp <;> with_reducible rfl
                  try simp only [List.getElem_toArray, List.getElem_cons_zero, List.getElem_cons_succ, Act.put, List.setIfInBounds_toArray, List.set_cons_zero, List.set_cons_succ]
                  refine wpAnyH_ready (rs := [8]) (by kernel_rfl) (by simp) ?_
                  refine AllReadyH.cons rfl (fun K hK => ?_) AllReadyH.nil
                  go_simp
                  refine hK.out _ _ ?_ (fun hS => ?_)
                  · show (wr.setCell _ _).cell? _ = _
                    rw [World.cell?_setCell_other _ _ _ _ (by intro e; injection e with e; have := HG.out; omega)]; exact hS
                  clear hK K
                  try simp only [List.getElem_toArray, List.getElem_cons_zero, List.getElem_cons_succ, Act.put, List.setIfInBounds_toArray, List.set_cons_zero, List.set_cons_succ]
                  refine wpAnyH_done (by kernel_rfl) ?_ _
                  clear hS hcell' hfz' hcell hfz hc10
                  go_wp2
                  go_roundw
                  case rel => exact ⟨k + 1, by omega, by go_num, by rw [HST.out, ← u32s_set]; exact Arr.drew (Arr.set H2.out _ _), Arr.drew (Arr.set_other H4.out _ (by show g4 ≠ g2; have := HG.out; omega) _), Arr.drew (Arr.set_other H10.out _ (by show g10 ≠ g2; have := HG.out; omega) _), (hBw2.setCell (by show w.heap.size ≤ g2; have := HG.out; omega) _).drew⟩
                  case measure => simp [intOf]; omega
                · obtain rfl : k = 8 := by omega
                  rw [addAt_end] at h2
                  have H2 : Hid _ := h2
                  have H4 : Hid _ := h4
                  clear h2 h4 hlt h10
                  have HR8 : Hid ((u32s (ShaMath.addS s V).list).length = 8) := by show _ = _; rw [u32s_len]; rfl
                  have HOr : Hid _ := u32s_one (ShaMath.addS s V).list
                  obtain ⟨Y, hY⟩ : ∃ Y, Y = u32s (ShaMath.addS s V).list := ⟨_, rfl⟩
                  rw [← hY] at HR8 HOr H2
                  have HY : Hid (Y = u32s (ShaMath.comp s bs).list) := by show _ = _; rw [hY, HV.out]
                  clear hY
                  go_wp2_with (first
                    | (refine wpList_load_mid rfl 113 (.tmp 2) rfl g2 0 rfl Y (.array 8 112) (range_of_arr H2.out) Tryz.underlying113 rfl (by rw [HR8.out]; exact size47) ?_)
                    | (refine wpList_store_arr rfl 113 (.tmp 4) (.tmp 166) rfl g4 113 Z8 Y rfl rfl H4.out (by rw [HR8.out]; exact size47) (by rw [HZ8l.out, HR8.out]) HOr.out ?_))
                  (try simp only [Exit.inBlock, Exit.then])
                  refine ret_arr g4 113 Y (.array 8 112) rfl rfl (Arr.row H4.out) Tryz.underlying113 rfl (by rw [HR8.out]; exact size47) rfl ⟨by rw [HY.out], below_setRow hBw2 (by have := HG.out; omega) _⟩

end Go.Proofs.YteockpllnhjooaaGreatDoor

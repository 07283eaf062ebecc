/-
  FnRefBlock, FnRefDigest.
-/
import Derived.Test.YteockpllnhjooaaGreatDoorQL35
import Derived.Test.YteockpllnhjooaaGreatDoorQL05
import Derived.Test.YteockpllnhjooaaGreatDoorQL46
namespace Go.Proofs.YteockpllnhjooaaGreatDoor
open Go.RowKit NumMath
set_option maxRecDepth 100000
set_option linter.unusedVariables false
set_option linter.unusedSimpArgs false
attribute [-simp] Tryz.isAgg131 Tryz.sizeOf131 Tryz.zeroValue131 Tryz.isAgg113 Tryz.sizeOf113 Tryz.zeroValue113

theorem big_nat : ∀ (l : List Nat) (v : Nat), (ints l).foldl (fun v c => v * 256 + c) (v : Int) = ((l.foldl (fun v c => v * 256 + c) v : Nat) : Int)
  | [], v => rfl
  | c :: l, v => by
    show (ints l).foldl _ ((v : Int) * 256 + (c : Int)) = _
    rw [show (v : Int) * 256 + (c : Int) = ((v * 256 + c : Nat) : Int) by simp, big_nat l]
    rfl
/-- A table that is filled word by word. -/
def wordsUp (b : List Nat) (k : Nat) : List Nat := ShaMath.words b k ++ List.replicate (64 - k) 0
theorem wordsUp_len (b : List Nat) (k : Nat) (h : k ≤ 64) : (wordsUp b k).length = 64 := by simp [wordsUp, ShaMath.words_len]; omega
theorem wordsUp_step (b : List Nat) (k : Nat) (h : k < 64) : wordsUp b (k + 1) = (wordsUp b k).set k (ShaMath.word b k) := by
  unfold wordsUp
  rw [List.set_append_right _ _ (by rw [ShaMath.words_len]; exact Nat.le_refl _), ShaMath.words_len, Nat.sub_self, show 64 - k = (64 - (k + 1)) + 1 by omega, List.replicate_succ]
  simp [ShaMath.words, List.range_succ]

/-- The arrays of one block under way. -/
def Blk (w wr : World) (g5 g2 g4 : Nat) (A5 A2 A4 : List Value) : Prop := Arr wr g5 131 A5 ∧ Arr wr g2 113 A2 ∧ Arr wr g4 113 A4 ∧ Below w.heap.size w wr
theorem Blk.drewN {w wr : World} {g5 g2 g4 : Nat} {A5 A2 A4 : List Value} (h : Blk w wr g5 g2 g4 A5 A2 A4) (n : Nat) : Blk w (wr.drewN n) g5 g2 g4 A5 A2 A4 := ⟨h.1.drewN n, h.2.1.drewN n, h.2.2.1.drewN n, Below.drewN h.2.2.2 n⟩

set_option maxRecDepth 8000 in
set_option maxHeartbeats 4000000 in
theorem block_any (s : ShaMath.St) (bs : List Nat) (a : Option Addr) (cap : Nat) (w : World) (ht : RefTab w) (htl : 2 < w.heap.size) (hs : s.ok) (hl : bs.length = 64) (hb : ∀ c ∈ bs, c < 256) (hr : Row .u8 w a (ints bs)) (hc : 64 ≤ cap) (hm : cap ≤ maxLen) :
    Calls Tryz.prog 67 #[.agg (u32s s.list).toArray, .slice a 64 cap] w fun e w' => e = .returned (.agg (u32s (ShaMath.comp s bs).list).toArray) ∧ Below w.heap.size w w' := by
  unfold maxLen at hm
  obtain ⟨z58, i58⟩ := zero_of_info zero58
  obtain ⟨z47, i47⟩ := zero_of_info zero47
  obtain ⟨Sv, hSv⟩ : ∃ Sv, Sv = u32s s.list := ⟨_, rfl⟩
  obtain ⟨Z, hZ⟩ : ∃ Z, Z = u32s (List.replicate 64 0) := ⟨_, rfl⟩
  obtain ⟨Z8, hZ8⟩ : ∃ Z, Z = u32s (List.replicate 8 0) := ⟨_, rfl⟩
  rw [← hZ] at z58
  rw [← hZ8] at z47
  rw [← hSv]
  have HS : Hid (Sv = u32s s.list) := hSv
  have HZ : Hid (Z = u32s (List.replicate 64 0)) := hZ
  have HZ8 : Hid (Z8 = u32s (List.replicate 8 0)) := hZ8
  have HL : Hid (bs.length = 64) := hl
  have HT : Hid (RefTab w) := ht
  obtain ⟨b0, off, rfl, hcell⟩ : ∃ b off, a = some ⟨b, off, none⟩ ∧ ∀ i, i < (ints bs).length → w.cell? ⟨b, off + i, none⟩ = some (.int .u8 ((ints bs).getD i 0)) := by
    rcases hr with h | h
    · have := congrArg List.length h; rw [ints_len, hl] at this; simp at this
    · exact h
  have HC : Hid _ := hcell
  clear hZ hl i58 i47 hSv hZ8 ht hr hcell
  have HA2 : Hid (Arr (((w.alloc (Obj.cells Sv.toArray 113)).alloc (Obj.cells Z8.toArray 113)).alloc (Obj.cells Z.toArray 131)) w.heap.size 113 (u32s s.list)) := by rw [← HS.out]; exact ((Arr.new _ 113 Sv rfl).alloc _).alloc _
  have HA4 : Hid (Arr (((w.alloc (Obj.cells Sv.toArray 113)).alloc (Obj.cells Z8.toArray 113)).alloc (Obj.cells Z.toArray 131)) (w.heap.size + 1) 113 Z8) := (Arr.new _ 113 Z8 (by simp)).alloc _
  have HA5 : Hid (Arr (((w.alloc (Obj.cells Sv.toArray 113)).alloc (Obj.cells Z8.toArray 113)).alloc (Obj.cells Z.toArray 131)) (w.heap.size + 1 + 1) 131 (u32s (wordsUp bs 0))) := by
    show Arr _ _ _ _
    rw [show wordsUp bs 0 = List.replicate 64 0 from rfl, ← HZ.out]; exact Arr.new _ 131 Z (by simp)
  have HBl : Hid (Below w.heap.size w (((w.alloc (Obj.cells Sv.toArray 113)).alloc (Obj.cells Z8.toArray 113)).alloc (Obj.cells Z.toArray 131))) := (((Below.refl _ _).alloc (Nat.le_refl _) _).alloc (by simp) _).alloc (by simp; omega) _
  go_enter Tryz.func67, Tryz.ntmps67
  go_wp2_with fail
  generalize (((w.alloc (Obj.cells Sv.toArray 113)).alloc (Obj.cells Z8.toArray 113)).alloc (Obj.cells Z.toArray 131)) = w1 at *
  obtain ⟨g5, hg5⟩ : ∃ g, g = w.heap.size + 1 + 1 := ⟨_, rfl⟩
  obtain ⟨g4, hg4⟩ : ∃ g, g = w.heap.size + 1 := ⟨_, rfl⟩
  obtain ⟨g2, hg2⟩ : ∃ g, g = w.heap.size := ⟨_, rfl⟩
  have hgo : w.heap.size ≤ g2 ∧ g2 < g4 ∧ g4 < g5 := by omega
  rw [← hg5] at HA5 ⊢
  rw [← hg4] at HA4 ⊢
  rw [show Arr w1 w.heap.size 113 (u32s s.list) = Arr w1 g2 113 (u32s s.list) by rw [hg2]] at HA2
  rw [show Value.pointer (some { block := w.heap.size, off := 0 }) = Value.pointer (some { block := g2, off := 0 }) by rw [hg2]]
  have HG : Hid (w.heap.size ≤ g2 ∧ g2 < g4 ∧ g4 < g5) := hgo
  clear hg5 hg4 hg2 hgo
  go_loopw [6] (fun i wr => ∃ k : Nat, k ≤ 16 ∧ i = .int .i64 k ∧ Arr wr g5 131 (u32s (wordsUp bs k)) ∧ Arr wr g2 113 (u32s s.list) ∧ Arr wr g4 113 Z8 ∧ Below w.heap.size w wr) (fun i _ => 16 - (intOf i).toNat)
  case atStart => exact ⟨0, by omega, rfl, HA5.out, HA2.out, HA4.out, HBl.out⟩
  case round =>
    clear HA5 HA2 HA4 HBl
    obtain ⟨k, hk, rfl, h5, h2, h4, hBw⟩ := hrel
    by_cases hlt : k < 16
    · have hstep := wordsUp_step bs k (by omega)
      have hwl := ShaMath.word_lt bs k hb
      have hc5 := h5.cell32 k (by rw [wordsUp_len bs k (by omega)]; omega)
      have hf5 := h5.frozen k
      obtain ⟨k4, hk4, gk4⟩ : ∃ q : Nat, (4 : Int) * (k : Int) = (q : Int) ∧ q = 4 * k := ⟨4 * k, by omega, rfl⟩
      have hk4l : k4 ≤ 60 := by omega
      have hbig : ∀ w', Below w.heap.size w w' → Calls Tryz.prog 90 #[.slice (some ⟨b0, off + k4, none⟩) 4 (cap - k4)] w' fun e w2 => e = .returned (.int .u64 ((ShaMath.word bs k : Nat) : Int)) ∧ w2 = w' := by
        intro w' hB'
        have hrow : Row .u8 w' (some ⟨b0, off + k4, none⟩) (ints ((bs.drop k4).take 4)) := by
          refine .inr ⟨b0, off + k4, rfl, fun i hi => ?_⟩
          have hi4 : i < 4 := by rw [ints_len, List.length_take] at hi; omega
          have hlen := HL.out
          have hcc := HC.out (k4 + i) (by rw [ints_len, HL.out]; omega)
          rw [show off + k4 + i = off + (k4 + i) by omega, hB'.cell (World.block_lt_of_cell? w _ hcc), hcc]
          simp [ints, hi4]
        have := refBig_any (some ⟨b0, off + k4, none⟩) (ints ((bs.drop k4).take 4)) (cap - k4) w' hrow (ints_byte (fun c hc => hb c (ShaMath.mem_piece hc))) (by rw [ints_len, List.length_take]; omega) (by unfold maxLen; omega)
        rw [ints_len, List.length_take, List.length_drop, HL.out, show min 4 (64 - k4) = 4 by omega, List.take_of_length_le (by rw [ints_len, List.length_take]; omega)] at this
        have e : bigL (ints ((bs.drop k4).take 4)) = ((ShaMath.word bs k : Nat) : Int) := by
          have hbn := big_nat ((bs.drop k4).take 4) 0
          unfold ShaMath.word ShaMath.bigN
          rw [← gk4]
          exact hbn
        rw [e] at this
        exact this
      have HBG : Hid _ := hbig _ hBw
      generalize ShaMath.word bs k = X at *
      have HST : Hid _ := hstep
      have H5 : Hid _ := h5
      have H2 : Hid _ := h2
      have H4 : Hid _ := h4
      have hcapI : (k4 : Int) + 4 ≤ (cap : Int) := by omega
      have hcapne : ¬ cap = k4 := by omega
      clear hstep h5 h2 h4 hbig gk4
      go_wp2_with fail
      refine Calls.mono HBG.out ?_
      rintro e wz ⟨rfl, rfl⟩
      clear HBG
      go_wp2
      go_roundw
      case rel => exact ⟨k + 1, by omega, by go_num, by rw [HST.out, ← u32s_set]; exact Arr.set H5.out _ _, Arr.set_other H2.out _ (by simp; have := HG.out; omega) _, Arr.set_other H4.out _ (by simp; have := HG.out; omega) _, hBw.setCell (by simp; have := HG.out; omega) _⟩
      case measure => simp [intOf]; omega
    · obtain rfl : k = 16 := by omega
      rw [show wordsUp bs 16 = ShaMath.schedAt bs 16 from (ShaMath.schedAt_start bs).symm] at h5
      have HQ0 : Hid (Blk w wr g5 g2 g4 (u32s (ShaMath.schedAt bs 16)) (u32s s.list) Z8) := ⟨h5, h2, h4, hBw⟩
      clear h5 h2 h4 hBw hlt
      rw [show ((16 : Nat) : Int) = 16 from rfl]
      go_wp2_with fail
      go_loopw [7] (fun i wr => ∃ k : Nat, 16 ≤ k ∧ k ≤ 64 ∧ i = .int .i64 k ∧ Blk w wr g5 g2 g4 (u32s (ShaMath.schedAt bs k)) (u32s s.list) Z8) (fun i _ => 64 - (intOf i).toNat)
      case atStart => exact ⟨16, by omega, by omega, rfl, HQ0.out⟩
      case round =>
        clear HQ0
        obtain ⟨k, hk1, hk2, rfl, hQ⟩ := hrel
        by_cases hlt : k < 64
        · have h3 := hQ.1
          have hlen := ShaMath.schedAt_len bs k ⟨hk1, hk2⟩
          have hel := ShaMath.schedAt_lt bs k hb
          obtain ⟨k16, e16, f16⟩ : ∃ m : Nat, (k : Int) - 16 = m ∧ m = k - 16 := ⟨k - 16, by omega, rfl⟩
          obtain ⟨k15, e15, f15⟩ : ∃ m : Nat, (k : Int) - 15 = m ∧ m = k - 15 := ⟨k - 15, by omega, rfl⟩
          obtain ⟨k7, e7, f7⟩ : ∃ m : Nat, (k : Int) - 7 = m ∧ m = k - 7 := ⟨k - 7, by omega, rfl⟩
          obtain ⟨k2, e2, f2⟩ : ∃ m : Nat, (k : Int) - 2 = m ∧ m = k - 2 := ⟨k - 2, by omega, rfl⟩
          have c16 := Arr.cell32 h3 k16 (by omega)
          have c15 := Arr.cell32 h3 k15 (by omega)
          have c7 := Arr.cell32 h3 k7 (by omega)
          have c2 := Arr.cell32 h3 k2 (by omega)
          have hstep := fun x => ShaMath.schedAt_step bs k ⟨hk1, hlt⟩ x
          rw [← f16, ← f15, ← f7, ← f2] at hstep
          have b16 := ShaMath.getD_lt hel (by decide) k16
          have b15 := ShaMath.getD_lt hel (by decide) k15
          have b7 := ShaMath.getD_lt hel (by decide) k7
          have b2 := ShaMath.getD_lt hel (by decide) k2
          generalize (ShaMath.schedAt bs k)[k16]?.getD 0 = p16 at *
          generalize (ShaMath.schedAt bs k)[k15]?.getD 0 = p15 at *
          generalize (ShaMath.schedAt bs k)[k7]?.getD 0 = p7 at *
          generalize (ShaMath.schedAt bs k)[k2]?.getD 0 = p2 at *
          have HST : Hid _ := hstep
          have HQ0 : Hid _ := hQ
          have HLN : Hid _ := hlen
          have l16 : k16 < 64 := by omega
          have l15 : k15 < 64 := by omega
          have l7 : k7 < 64 := by omega
          have l2 : k2 < 64 := by omega
          clear hstep h3 hQ hlen hel f16 f15 f7 f2
          go_wp2_with fail
          go_region
          go_wp2_with fail
          have R1 : Hid (∀ w, _) := fun w => turn_any p15 7 w b15 (by decide) (by decide)
          have R2 : Hid (∀ w, _) := fun w => turn_any p15 18 w b15 (by decide) (by decide)
          have R3 : Hid (∀ w, _) := fun w => turn_any p2 17 w b2 (by decide) (by decide)
          have R4 : Hid (∀ w, _) := fun w => turn_any p2 19 w b2 (by decide) (by decide)
          have w16 : IntKind.i64.wrap (k16 : Int) = k16 := IntWalk.i64_in _ ⟨by omega, by omega⟩
          have m16 : (k16 : Int) < 64 := by omega
          have m7 : (k7 : Int) < 64 := by omega
          have mk : (k : Int) < 64 := by omega
          have w7 : IntKind.i64.wrap (k7 : Int) = k7 := IntWalk.i64_in _ ⟨by omega, by omega⟩
          have HQd : Hid (Blk w wr.drew.drew g5 g2 g4 (u32s (ShaMath.schedAt bs k)) (u32s s.list) Z8) := Blk.drewN HQ0.out 2
          refine wp_region_held_drew (S := fun w' => w'.cell? ⟨g5, k16, none⟩ = some (.int .u32 (p16 : Int)) ∧ w'.cell? ⟨g5, k7, none⟩ = some (.int .u32 (p7 : Int))) rfl ⟨c16, c7⟩ (fun hS => ?_)
          clear c16 c15 c7 c2 HQ0
          refine wpAnyH_take (i := 0) (v := ?_) rfl (by kernel_rfl) (by kernel_rfl) (by kernel_rfl) (fun _ _ _ h => h) (Or.inl ⟨by rfl, ?_⟩) hS ?_
          rotate_left 1
          · intro w hSw; (try dsimp only at hSw); go_simp <;> with_reducible rfl
          try simp only [List.getElem_toArray, List.getElem_cons_zero, List.getElem_cons_succ, Act.put, List.setIfInBounds_toArray, List.set_cons_zero, List.set_cons_succ]
          refine wpAnyH_take (i := 1) (v := ?_) rfl (by kernel_rfl) (by kernel_rfl) (by kernel_rfl) (fun _ _ _ h => h) (Or.inl ⟨by rfl, ?_⟩) hS ?_
          rotate_left 1
          · intro w hSw; (try dsimp only at hSw); go_simp <;> with_reducible rfl
          try simp only [List.getElem_toArray, List.getElem_cons_zero, List.getElem_cons_succ, Act.put, List.setIfInBounds_toArray, List.set_cons_zero, List.set_cons_succ]
          refine wpAnyH_take (i := 2) (v := ?_) rfl (by kernel_rfl) (by kernel_rfl) (by kernel_rfl) (fun _ _ _ h => h) (Or.inl ⟨by rfl, ?_⟩) hS ?_
          rotate_left 1
          · intro w hSw; (try dsimp only at hSw); go_simp <;> with_reducible rfl
          try simp only [List.getElem_toArray, List.getElem_cons_zero, List.getElem_cons_succ, Act.put, List.setIfInBounds_toArray, List.set_cons_zero, List.set_cons_succ]
          refine wpAnyH_take (i := 3) (v := ?_) rfl (by kernel_rfl) (by kernel_rfl) (by kernel_rfl) (fun _ _ _ h => h) (Or.inl ⟨by rfl, ?_⟩) hS ?_
          rotate_left 1
          · intro w hSw; (try dsimp only at hSw); go_simp <;> with_reducible rfl
          try simp only [List.getElem_toArray, List.getElem_cons_zero, List.getElem_cons_succ, Act.put, List.setIfInBounds_toArray, List.set_cons_zero, List.set_cons_succ]
          refine wpAnyH_take (i := 4) (v := ?_) rfl (by kernel_rfl) (by kernel_rfl) (by kernel_rfl) (fun _ _ _ h => h) (Or.inl ⟨by rfl, ?_⟩) hS ?_
          rotate_left 1
          · intro w hSw; (try dsimp only at hSw); go_simp <;> with_reducible rfl
          try simp only [List.getElem_toArray, List.getElem_cons_zero, List.getElem_cons_succ, Act.put, List.setIfInBounds_toArray, List.set_cons_zero, List.set_cons_succ]
          refine wpAnyH_take (i := 5) (v := ?_) rfl (by kernel_rfl) (by kernel_rfl) (by kernel_rfl) (fun _ _ _ h => h) (Or.inl ⟨by rfl, ?_⟩) hS ?_
          rotate_left 1
          · intro w hSw; (try dsimp only at hSw); go_simp <;> with_reducible rfl
          try simp only [List.getElem_toArray, List.getElem_cons_zero, List.getElem_cons_succ, Act.put, List.setIfInBounds_toArray, List.set_cons_zero, List.set_cons_succ]
          refine wpAnyH_take (i := 7) (v := ?_) rfl (by kernel_rfl) (by kernel_rfl) (by kernel_rfl) (fun _ _ _ h => h) (Or.inl ⟨by rfl, ?_⟩) hS ?_
          rotate_left 1
          · intro w hSw; (try dsimp only at hSw); go_simp <;> with_reducible rfl
          try simp only [List.getElem_toArray, List.getElem_cons_zero, List.getElem_cons_succ, Act.put, List.setIfInBounds_toArray, List.set_cons_zero, List.set_cons_succ]
          refine wpAnyH_take (i := 10) (v := ?_) rfl (by kernel_rfl) (by kernel_rfl) (by kernel_rfl) (fun _ _ _ h => h) (Or.inl ⟨by rfl, ?_⟩) hS ?_
          rotate_left 1
          · intro w hSw; (try dsimp only at hSw); go_simp <;> with_reducible rfl
          try simp only [List.getElem_toArray, List.getElem_cons_zero, List.getElem_cons_succ, Act.put, List.setIfInBounds_toArray, List.set_cons_zero, List.set_cons_succ]
          refine wpAnyH_take (i := 11) (v := ?_) rfl (by kernel_rfl) (by kernel_rfl) (by kernel_rfl) (fun _ _ _ h => h) (Or.inl ⟨by rfl, ?_⟩) hS ?_
          rotate_left 1
          · intro w hSw; (try dsimp only at hSw); go_simp <;> with_reducible rfl
          try simp only [List.getElem_toArray, List.getElem_cons_zero, List.getElem_cons_succ, Act.put, List.setIfInBounds_toArray, List.set_cons_zero, List.set_cons_succ]
          refine wpAnyH_take (i := 14) (v := ?_) rfl (by kernel_rfl) (by kernel_rfl) (by kernel_rfl) (fun _ _ _ h => h) (Or.inl ⟨by rfl, ?_⟩) hS ?_
          rotate_left 1
          · intro w hSw; (try dsimp only at hSw); go_simp <;> with_reducible rfl
          try simp only [List.getElem_toArray, List.getElem_cons_zero, List.getElem_cons_succ, Act.put, List.setIfInBounds_toArray, List.set_cons_zero, List.set_cons_succ]
          refine wpAnyH_take (i := 15) (v := ?_) rfl (by kernel_rfl) (by kernel_rfl) (by kernel_rfl) (fun _ _ _ h => h) (Or.inl ⟨by rfl, ?_⟩) hS ?_
          rotate_left 1
          · intro w hSw; (try dsimp only at hSw); go_simp <;> with_reducible rfl
          try simp only [List.getElem_toArray, List.getElem_cons_zero, List.getElem_cons_succ, Act.put, List.setIfInBounds_toArray, List.set_cons_zero, List.set_cons_succ]
          refine wpAnyH_take (i := 16) (v := ?_) rfl (by kernel_rfl) (by kernel_rfl) (by kernel_rfl) (fun _ _ _ h => h) (Or.inl ⟨by rfl, ?_⟩) hS ?_
          rotate_left 1
          · intro w hSw; (try dsimp only at hSw); go_simp <;> with_reducible rfl
          try simp only [List.getElem_toArray, List.getElem_cons_zero, List.getElem_cons_succ, Act.put, List.setIfInBounds_toArray, List.set_cons_zero, List.set_cons_succ]
          refine wpAnyH_take (i := 17) (v := ?_) rfl (by kernel_rfl) (by kernel_rfl) (by kernel_rfl) (fun _ _ _ h => h) (Or.inl ⟨by rfl, ?_⟩) hS ?_
          rotate_left 1
          · intro w hSw; (try dsimp only at hSw); go_simp <;> with_reducible rfl
          try simp only [List.getElem_toArray, List.getElem_cons_zero, List.getElem_cons_succ, Act.put, List.setIfInBounds_toArray, List.set_cons_zero, List.set_cons_succ]
          refine wpAnyH_take (i := 19) (v := ?_) rfl (by kernel_rfl) (by kernel_rfl) (by kernel_rfl) (fun _ _ _ h => h) (Or.inl ⟨by rfl, ?_⟩) hS ?_
          rotate_left 1
          · intro w hSw; (try dsimp only at hSw); go_simp <;> with_reducible rfl
          try simp only [List.getElem_toArray, List.getElem_cons_zero, List.getElem_cons_succ, Act.put, List.setIfInBounds_toArray, List.set_cons_zero, List.set_cons_succ]
          refine wpAnyH_take (i := 21) (v := ?_) rfl (by kernel_rfl) (by kernel_rfl) (by kernel_rfl) (fun _ _ _ h => h) (Or.inl ⟨by rfl, ?_⟩) hS ?_
          rotate_left 1
          · intro w hSw; (try dsimp only at hSw); go_simp <;> with_reducible rfl
          try simp only [List.getElem_toArray, List.getElem_cons_zero, List.getElem_cons_succ, Act.put, List.setIfInBounds_toArray, List.set_cons_zero, List.set_cons_succ]
          refine wpAnyH_take (i := 24) (v := ?_) rfl (by kernel_rfl) (by kernel_rfl) (by kernel_rfl) (fun _ _ _ h => h) (Or.inl ⟨by rfl, ?_⟩) hS ?_
          rotate_left 1
          · intro w hSw; (try dsimp only at hSw); go_simp <;> with_reducible rfl
          try simp only [List.getElem_toArray, List.getElem_cons_zero, List.getElem_cons_succ, Act.put, List.setIfInBounds_toArray, List.set_cons_zero, List.set_cons_succ]
          refine wpAnyH_take (i := 25) (v := ?_) rfl (by kernel_rfl) (by kernel_rfl) (by kernel_rfl) (fun _ _ _ h => h) (Or.inl ⟨by rfl, ?_⟩) hS ?_
          rotate_left 1
          · intro w hSw; (try dsimp only at hSw); go_simp <;> with_reducible rfl
          try simp only [List.getElem_toArray, List.getElem_cons_zero, List.getElem_cons_succ, Act.put, List.setIfInBounds_toArray, List.set_cons_zero, List.set_cons_succ]
          refine wpAnyH_ready (rs := [6]) (by kernel_rfl) (by simp) ?_
          refine AllReadyH.cons rfl (fun K hK => ?_) AllReadyH.nil
          go_simp
          refine Calls.mono (R1.out _) ?_
          rintro e wa ⟨rfl, mwa, hmwa⟩
          have HQwa : Hid (Blk w wa g5 g2 g4 (u32s (ShaMath.schedAt bs k)) (u32s s.list) Z8) := by rw [hmwa]; exact Blk.drewN HQd.out _
          have hS2 : wa.cell? ⟨g5, k16, none⟩ = some (.int .u32 (p16 : Int)) ∧ wa.cell? ⟨g5, k7, none⟩ = some (.int .u32 (p7 : Int)) := by rw [hmwa]; exact hS
          clear hmwa HQd
          refine hK.out _ _ hS2 (fun hS => ?_)
          clear hK K hS2
          try simp only [List.getElem_toArray, List.getElem_cons_zero, List.getElem_cons_succ, Act.put, List.setIfInBounds_toArray, List.set_cons_zero, List.set_cons_succ]
          refine wpAnyH_ready (rs := [8]) (by kernel_rfl) (by simp) ?_
          refine AllReadyH.cons rfl (fun K hK => ?_) AllReadyH.nil
          go_simp
          refine Calls.mono (R2.out _) ?_
          rintro e wb ⟨rfl, mwb, hmwb⟩
          have HQwb : Hid (Blk w wb g5 g2 g4 (u32s (ShaMath.schedAt bs k)) (u32s s.list) Z8) := by rw [hmwb]; exact Blk.drewN HQwa.out _
          have hS2 : wb.cell? ⟨g5, k16, none⟩ = some (.int .u32 (p16 : Int)) ∧ wb.cell? ⟨g5, k7, none⟩ = some (.int .u32 (p7 : Int)) := by rw [hmwb]; exact hS
          clear hmwb HQwa
          refine hK.out _ _ hS2 (fun hS => ?_)
          clear hK K hS2
          try simp only [List.getElem_toArray, List.getElem_cons_zero, List.getElem_cons_succ, Act.put, List.setIfInBounds_toArray, List.set_cons_zero, List.set_cons_succ]
          refine wpAnyH_take (i := 9) (v := ?_) rfl (by kernel_rfl) (by kernel_rfl) (by kernel_rfl) (fun _ _ _ h => h) (Or.inl ⟨by rfl, ?_⟩) hS ?_
          rotate_left 1
          · intro w hSw; (try dsimp only at hSw); go_simp <;> with_reducible rfl
          try simp only [List.getElem_toArray, List.getElem_cons_zero, List.getElem_cons_succ, Act.put, List.setIfInBounds_toArray, List.set_cons_zero, List.set_cons_succ]
          refine wpAnyH_take (i := 12) (v := ?_) rfl (by kernel_rfl) (by kernel_rfl) (by kernel_rfl) (fun _ _ _ h => h) (Or.inl ⟨by rfl, ?_⟩) hS ?_
          rotate_left 1
          · intro w hSw; (try dsimp only at hSw); go_simp <;> with_reducible rfl
          try simp only [List.getElem_toArray, List.getElem_cons_zero, List.getElem_cons_succ, Act.put, List.setIfInBounds_toArray, List.set_cons_zero, List.set_cons_succ]
          refine wpAnyH_take (i := 13) (v := ?_) rfl (by kernel_rfl) (by kernel_rfl) (by kernel_rfl) (fun _ _ _ h => h) (Or.inl ⟨by rfl, ?_⟩) hS ?_
          rotate_left 1
          · intro w hSw; (try dsimp only at hSw); go_simp <;> with_reducible rfl
          try simp only [List.getElem_toArray, List.getElem_cons_zero, List.getElem_cons_succ, Act.put, List.setIfInBounds_toArray, List.set_cons_zero, List.set_cons_succ]
          refine wpAnyH_take (i := 18) (v := ?_) rfl (by kernel_rfl) (by kernel_rfl) (by kernel_rfl) (fun _ _ _ h => h) (Or.inl ⟨by rfl, ?_⟩) hS ?_
          rotate_left 1
          · intro w hSw; (try dsimp only at hSw); go_simp <;> with_reducible rfl
          try simp only [List.getElem_toArray, List.getElem_cons_zero, List.getElem_cons_succ, Act.put, List.setIfInBounds_toArray, List.set_cons_zero, List.set_cons_succ]
          refine wpAnyH_ready (rs := [20]) (by kernel_rfl) (by simp) ?_
          refine AllReadyH.cons rfl (fun K hK => ?_) AllReadyH.nil
          go_simp
          refine Calls.mono (R3.out _) ?_
          rintro e wc ⟨rfl, mwc, hmwc⟩
          have HQwc : Hid (Blk w wc g5 g2 g4 (u32s (ShaMath.schedAt bs k)) (u32s s.list) Z8) := by rw [hmwc]; exact Blk.drewN HQwb.out _
          have hS2 : wc.cell? ⟨g5, k16, none⟩ = some (.int .u32 (p16 : Int)) ∧ wc.cell? ⟨g5, k7, none⟩ = some (.int .u32 (p7 : Int)) := by rw [hmwc]; exact hS
          clear hmwc HQwb
          refine hK.out _ _ hS2 (fun hS => ?_)
          clear hK K hS2
          try simp only [List.getElem_toArray, List.getElem_cons_zero, List.getElem_cons_succ, Act.put, List.setIfInBounds_toArray, List.set_cons_zero, List.set_cons_succ]
          refine wpAnyH_ready (rs := [22]) (by kernel_rfl) (by simp) ?_
          refine AllReadyH.cons rfl (fun K hK => ?_) AllReadyH.nil
          go_simp
          refine Calls.mono (R4.out _) ?_
          rintro e wd ⟨rfl, mwd, hmwd⟩
          have HQwd : Hid (Blk w wd g5 g2 g4 (u32s (ShaMath.schedAt bs k)) (u32s s.list) Z8) := by rw [hmwd]; exact Blk.drewN HQwc.out _
          have hS2 : wd.cell? ⟨g5, k16, none⟩ = some (.int .u32 (p16 : Int)) ∧ wd.cell? ⟨g5, k7, none⟩ = some (.int .u32 (p7 : Int)) := by rw [hmwd]; exact hS
          clear hmwd HQwc
          refine hK.out _ _ hS2 (fun hS => ?_)
          clear hK K hS2
          try simp only [List.getElem_toArray, List.getElem_cons_zero, List.getElem_cons_succ, Act.put, List.setIfInBounds_toArray, List.set_cons_zero, List.set_cons_succ]
          refine wpAnyH_take (i := 23) (v := ?_) rfl (by kernel_rfl) (by kernel_rfl) (by kernel_rfl) (fun _ _ _ h => h) (Or.inl ⟨by rfl, ?_⟩) hS ?_
          rotate_left 1
          · intro w hSw; (try dsimp only at hSw); go_simp <;> with_reducible rfl
          try simp only [List.getElem_toArray, List.getElem_cons_zero, List.getElem_cons_succ, Act.put, List.setIfInBounds_toArray, List.set_cons_zero, List.set_cons_succ]
          refine wpAnyH_take (i := 26) (v := ?_) rfl (by kernel_rfl) (by kernel_rfl) (by kernel_rfl) (fun _ _ _ h => h) (Or.inl ⟨by rfl, ?_⟩) hS ?_
          rotate_left 1
          · intro w hSw; (try dsimp only at hSw); go_simp <;> with_reducible rfl
          try simp only [List.getElem_toArray, List.getElem_cons_zero, List.getElem_cons_succ, Act.put, List.setIfInBounds_toArray, List.set_cons_zero, List.set_cons_succ]
          refine wpAnyH_take (i := 27) (v := ?_) rfl (by kernel_rfl) (by kernel_rfl) (by kernel_rfl) (fun _ _ _ h => h) (Or.inl ⟨by rfl, ?_⟩) hS ?_
          rotate_left 1
          · intro w hSw; (try dsimp only at hSw); go_simp <;> with_reducible rfl
          try simp only [List.getElem_toArray, List.getElem_cons_zero, List.getElem_cons_succ, Act.put, List.setIfInBounds_toArray, List.set_cons_zero, List.set_cons_succ]
          refine wpAnyH_take (i := 28) (v := ?_) rfl (by kernel_rfl) (by kernel_rfl) (by kernel_rfl) (fun _ _ _ h => h) (Or.inl ⟨by rfl, ?_⟩) hS ?_
          rotate_left 1
          · intro w hSw; (try dsimp only at hSw); go_simp <;> with_reducible rfl
          try simp only [List.getElem_toArray, List.getElem_cons_zero, List.getElem_cons_succ, Act.put, List.setIfInBounds_toArray, List.set_cons_zero, List.set_cons_succ]
          refine wpAnyH_ready (rs := [29]) (by kernel_rfl) (by simp) ?_
          refine AllReadyH.cons rfl (fun K hK => ?_) AllReadyH.nil
          have hne16 : k ≠ k16 := by omega
          have hne7 : k ≠ k7 := by omega
          have ck := HQwd.out.1.cell32 k (by rw [HLN.out]; exact hlt)
          have hfz := HQwd.out.1.frozen k
          go_simp
          rw [sched_val' p16 p15 p7 p2 b15 b2]
          have hset := fun (x : Nat) => HQwd.out.1.set k (.int .u32 (x : Int))
          have hst2 := HST.out _ rfl
          generalize (p16 + ShaMath.small0 p15 + p7 + ShaMath.small1 p2) % 4294967296 = X at *
          have HSX := hset X
          rw [u32s_set, ← hst2] at HSX
          have HQN : Hid (Blk w (wd.setCell ⟨g5, k, none⟩ (.int .u32 (X : Int))) g5 g2 g4 (u32s (ShaMath.schedAt bs (k + 1))) (u32s s.list) Z8) := ⟨HSX, Arr.set_other HQwd.out.2.1 _ (by show g2 ≠ g5; have := HG.out; omega) _, Arr.set_other HQwd.out.2.2.1 _ (by show g4 ≠ g5; have := HG.out; omega) _, HQwd.out.2.2.2.setCell (by show w.heap.size ≤ g5; have := HG.out; omega) _⟩
          clear hset hst2 HSX HST R1 R2 R3 R4
          refine hK.out _ _ ⟨?_, ?_⟩ (fun hS => ?_)
          · rw [World.cell?_setCell_other _ _ _ _ (by intro e; injection e; omega)]; exact hS.1
          · rw [World.cell?_setCell_other _ _ _ _ (by intro e; injection e; omega)]; exact hS.2
          clear hK K
          try simp only [List.getElem_toArray, List.getElem_cons_zero, List.getElem_cons_succ, Act.put, List.setIfInBounds_toArray, List.set_cons_zero, List.set_cons_succ]
          refine wpAnyH_done (by kernel_rfl) ?_ _
          clear hS ck hfz
          generalize wd.setCell ⟨g5, k, none⟩ (.int .u32 (X : Int)) = we at *
          go_wp2
          go_roundw
          case rel => exact ⟨k + 1, by omega, by omega, by go_num, HQN.out⟩
          case measure => simp [intOf]; omega
        · obtain rfl : k = 64 := by omega
          rw [ShaMath.schedAt_end] at hQ
          have HQ : Hid _ := hQ
          have HS8 : Hid ((u32s s.list).length = 8) := by show _ = _; rw [u32s_len]; rfl
          have HZ8l : Hid (Z8.length = 8) := by show _ = _; rw [HZ8.out, u32s_len]; simp
          have HO8 : Hid _ := u32s_one s.list
          have H2r : Hid (Arr wr g2 113 Sv) := by rw [HS.out]; exact hQ.2.1
          rw [← HS.out] at HS8 HO8
          clear hQ hlt
          rw [show ((64 : Nat) : Int) = 64 from rfl]
          go_wp2_with (first
            | (refine wpList_load_mid rfl 113 (.tmp 2) rfl g2 0 rfl Sv (.array 8 112) (range_of_arr H2r.out) Tryz.underlying113 rfl (by rw [HS8.out]; exact size47) ?_)
            | (refine wpList_store_arr rfl 113 (.tmp 10) (.tmp 73) rfl wr.heap.size 113 Z8 Sv rfl rfl (Arr.new wr 113 Z8 rfl) (by rw [HS8.out]; exact size47) (by rw [HZ8l.out, HS8.out]) HO8.out ?_))
          have HQ2 : Hid (Blk w ((wr.alloc (Obj.cells Z8.toArray 113)).setRow wr.heap.size Sv.toArray) g5 g2 g4 (u32s (ShaMath.sched bs)) (u32s s.list) Z8 ∧ Arr ((wr.alloc (Obj.cells Z8.toArray 113)).setRow wr.heap.size Sv.toArray) wr.heap.size 113 (u32s s.list) ∧ g5 < wr.heap.size) := by
            obtain ⟨q1, q2, q3, q4⟩ := HQ.out
            refine ⟨⟨(q1.alloc _).row_other _ (by have := q1.lt; omega), (q2.alloc _).row_other _ (by have := q2.lt; omega), (q3.alloc _).row_other _ (by have := q3.lt; omega), below_setRow (q4.alloc q4.size _) q4.size _⟩, ?_, q1.lt⟩
            rw [← HS.out]; exact Arr.row (Arr.new wr 113 Z8 rfl)
          obtain ⟨g10, hg10⟩ : ∃ g, g = wr.heap.size := ⟨_, rfl⟩
          rw [← hg10] at HQ2 ⊢
          clear hg10 HQ H2r
          generalize ((wr.alloc (Obj.cells Z8.toArray 113)).setRow g10 Sv.toArray) = w3 at *
          clear z47
          go_loopw [11] (fun i wr => ∃ k : Nat, k ≤ 64 ∧ i = .int .i64 k ∧ Blk w wr g5 g2 g4 (u32s (ShaMath.sched bs)) (u32s s.list) Z8 ∧ Arr wr g10 113 (u32s (ShaMath.rounds k s ShaMath.keys (ShaMath.sched bs)).list)) (fun i _ => 64 - (intOf i).toNat)
          case atStart => exact ⟨0, by omega, rfl, HQ2.out.1, HQ2.out.2.1⟩
          case round =>
            have hg10 := HQ2.out.2.2
            clear HQ2
            obtain ⟨k, hk, rfl, hQ, h10⟩ := hrel
            have hSok := ShaMath.rounds_ok k s ShaMath.keys (ShaMath.sched bs) hs
            by_cases hlt : k < 64
            · have hsnoc := ShaMath.rounds_snoc k s ShaMath.keys (ShaMath.sched bs) (by rw [keys_len]; exact hlt) (by rw [ShaMath.sched_len]; exact hlt)
              have cK := (HT.out.later hQ.2.2.2 htl) k hlt
              have cW := Arr.cell32 hQ.1 k (by rw [ShaMath.sched_len]; exact hlt)
              generalize ShaMath.keys[k]?.getD 0 = KK at *
              generalize (ShaMath.sched bs)[k]?.getD 0 = X at *
              generalize ShaMath.rounds k s ShaMath.keys (ShaMath.sched bs) = S at *
              have v0 : wr.cell? ⟨g10, 0, none⟩ = some (.int .u32 (S.a : Int)) := Arr.cell32 h10 0 (by rw [list8]; decide)
              have v1 : wr.cell? ⟨g10, 1, none⟩ = some (.int .u32 (S.b : Int)) := Arr.cell32 h10 1 (by rw [list8]; decide)
              have v2 : wr.cell? ⟨g10, 2, none⟩ = some (.int .u32 (S.c : Int)) := Arr.cell32 h10 2 (by rw [list8]; decide)
              have v3 : wr.cell? ⟨g10, 3, none⟩ = some (.int .u32 (S.d : Int)) := Arr.cell32 h10 3 (by rw [list8]; decide)
              have v4 : wr.cell? ⟨g10, 4, none⟩ = some (.int .u32 (S.e : Int)) := Arr.cell32 h10 4 (by rw [list8]; decide)
              have v5 : wr.cell? ⟨g10, 5, none⟩ = some (.int .u32 (S.f : Int)) := Arr.cell32 h10 5 (by rw [list8]; decide)
              have v6 : wr.cell? ⟨g10, 6, none⟩ = some (.int .u32 (S.g : Int)) := Arr.cell32 h10 6 (by rw [list8]; decide)
              have v7 : wr.cell? ⟨g10, 7, none⟩ = some (.int .u32 (S.h : Int)) := Arr.cell32 h10 7 (by rw [list8]; decide)
              obtain ⟨x43, x46, x48, x50, x51, x52, x56, x60, x65, x68, x69, x72, x73, x74, x77, x83, ⟨e43, f43⟩, e46, ⟨e48, f48⟩, e50, e51, ⟨e52, f52⟩, ⟨e56, f56⟩, ⟨e60, f60⟩, e65, e68, e69, e72, e73, ⟨e74, f74⟩, ⟨e77, f77⟩, ⟨e83, f83⟩, hround, l60, l74⟩ := round_steps S KK X hSok
              obtain ⟨sa, sb, sc, sd, se, sf, sg, sh⟩ := hSok
              have HRD : Hid _ := hsnoc.trans hround
              have T6 : Hid (∀ w, Calls Tryz.prog 91 #[.int .u32 (S.e : Int), .int .i64 6] w fun e w' => e = .returned (.int .u32 (ShaMath.rotr S.e 6 : Nat)) ∧ ∃ m, w' = w.drewN m) := fun w => turn_any S.e 6 w se (by decide) (by decide)
              have T11 : Hid (∀ w, Calls Tryz.prog 91 #[.int .u32 (S.e : Int), .int .i64 11] w fun e w' => e = .returned (.int .u32 (ShaMath.rotr S.e 11 : Nat)) ∧ ∃ m, w' = w.drewN m) := fun w => turn_any S.e 11 w se (by decide) (by decide)
              have T25 : Hid (∀ w, Calls Tryz.prog 91 #[.int .u32 (S.e : Int), .int .i64 25] w fun e w' => e = .returned (.int .u32 (ShaMath.rotr S.e 25 : Nat)) ∧ ∃ m, w' = w.drewN m) := fun w => turn_any S.e 25 w se (by decide) (by decide)
              have T2 : Hid (∀ w, Calls Tryz.prog 91 #[.int .u32 (S.a : Int), .int .i64 2] w fun e w' => e = .returned (.int .u32 (ShaMath.rotr S.a 2 : Nat)) ∧ ∃ m, w' = w.drewN m) := fun w => turn_any S.a 2 w sa (by decide) (by decide)
              have T13 : Hid (∀ w, Calls Tryz.prog 91 #[.int .u32 (S.a : Int), .int .i64 13] w fun e w' => e = .returned (.int .u32 (ShaMath.rotr S.a 13 : Nat)) ∧ ∃ m, w' = w.drewN m) := fun w => turn_any S.a 13 w sa (by decide) (by decide)
              have T22 : Hid (∀ w, Calls Tryz.prog 91 #[.int .u32 (S.a : Int), .int .i64 22] w fun e w' => e = .returned (.int .u32 (ShaMath.rotr S.a 22 : Nat)) ∧ ∃ m, w' = w.drewN m) := fun w => turn_any S.a 22 w sa (by decide) (by decide)
              have r6 := rotr_lt S.e 6 se
              have r11 := rotr_lt S.e 11 se
              have r25 := rotr_lt S.e 25 se
              have r2 := rotr_lt S.a 2 sa
              have r13 := rotr_lt S.a 13 sa
              have r22 := rotr_lt S.a 22 sa
              obtain ⟨x88, e88, g88⟩ := xorw (ShaMath.rotr S.e 6) (ShaMath.rotr S.e 11) r6 r11
              have l88 : x88 < 4294967296 := by rw [g88]; exact xor_lt32 r6 r11
              have e91 : bits .xor .u32 (x88 : Int) (ShaMath.rotr S.e 25 : Nat) = ((ShaMath.big1 S.e : Nat) : Int) := by rw [u32_xor_nat _ _ l88 r25, g88]; rfl
              obtain ⟨x116, e116, g116⟩ := xorw (ShaMath.rotr S.a 2) (ShaMath.rotr S.a 13) r2 r13
              have l116 : x116 < 4294967296 := by rw [g116]; exact xor_lt32 r2 r13
              have e119 : bits .xor .u32 (x116 : Int) (ShaMath.rotr S.a 22 : Nat) = ((ShaMath.big0 S.a : Nat) : Int) := by rw [u32_xor_nat _ _ l116 r22, g116]; rfl
              clear g88 g116 l88 l116 r6 r11 r25 r2 r13 r22
              generalize ShaMath.rotr S.e 6 = q6 at *
              generalize ShaMath.rotr S.e 11 = q11 at *
              generalize ShaMath.rotr S.e 25 = q25 at *
              generalize ShaMath.rotr S.a 2 = q2 at *
              generalize ShaMath.rotr S.a 13 = q13 at *
              generalize ShaMath.rotr S.a 22 = q22 at *
              generalize ShaMath.big1 S.e = B1 at *
              generalize ShaMath.big0 S.a = B0 at *
              have HQ : Hid _ := hQ
              have H10 : Hid _ := h10
              have hkI : (k : Int) < 64 := by omega
              have E1 : Hid (bits .and .u32 (S.a : Int) S.b = x65 ∧ bits .and .u32 (S.a : Int) S.c = x68 ∧ bits .xor .u32 (x65 : Int) x68 = x69 ∧ bits .and .u32 (S.b : Int) S.c = x72 ∧ bits .xor .u32 (x69 : Int) x72 = x73 ∧ IntKind.u32.wrap ((B0 : Int) + x73) = x74) := ⟨e65, e68, e69, e72, e73, e74⟩
              have E2 : Hid (bits .xor .u32 (q2 : Int) q13 = x116 ∧ bits .xor .u32 (x116 : Int) q22 = B0) := ⟨e116, e119⟩
              have E3 : Hid ((IntKind.u32.wrap ((x60 : Int) + x74) = x77 ∧ ((x60 : Int) + x74) % 4294967296 = x77) ∧ (IntKind.u32.wrap ((S.d : Int) + x60) = x83 ∧ ((S.d : Int) + x60) % 4294967296 = x83)) := ⟨⟨e77, f77⟩, ⟨e83, f83⟩⟩
              clear hround hsnoc hQ h10 f43 f48 f52 f56 f60 e65 e68 e69 e72 e73 e74 f74 e77 f77 e83 f83 e116 e119
              go_wp2_with fail
              go_quiet (fail)
              obtain ⟨wq1, hwq1⟩ : ∃ x, x = wr.drewN nq := ⟨_, rfl⟩
              rw [← hwq1]
              replace v0 : wq1.cell? ⟨g10, 0, none⟩ = some (.int .u32 (S.a : Int)) := by rw [hwq1]; exact v0
              replace v1 : wq1.cell? ⟨g10, 1, none⟩ = some (.int .u32 (S.b : Int)) := by rw [hwq1]; exact v1
              replace v2 : wq1.cell? ⟨g10, 2, none⟩ = some (.int .u32 (S.c : Int)) := by rw [hwq1]; exact v2
              replace v3 : wq1.cell? ⟨g10, 3, none⟩ = some (.int .u32 (S.d : Int)) := by rw [hwq1]; exact v3
              replace v4 : wq1.cell? ⟨g10, 4, none⟩ = some (.int .u32 (S.e : Int)) := by rw [hwq1]; exact v4
              replace v5 : wq1.cell? ⟨g10, 5, none⟩ = some (.int .u32 (S.f : Int)) := by rw [hwq1]; exact v5
              replace v6 : wq1.cell? ⟨g10, 6, none⟩ = some (.int .u32 (S.g : Int)) := by rw [hwq1]; exact v6
              replace v7 : wq1.cell? ⟨g10, 7, none⟩ = some (.int .u32 (S.h : Int)) := by rw [hwq1]; exact v7
              replace cK : wq1.cell? ⟨1, k, none⟩ = some (.int .u32 (KK : Int)) := by rw [hwq1]; exact cK
              replace cW : wq1.cell? ⟨g5, k, none⟩ = some (.int .u32 (X : Int)) := by rw [hwq1]; exact cW
              replace HQ : Hid (Blk w wq1 g5 g2 g4 (u32s (ShaMath.sched bs)) (u32s s.list) Z8) := by rw [hwq1]; exact Blk.drewN HQ.out _
              replace H10 : Hid (Arr wq1 g10 113 (u32s S.list)) := by rw [hwq1]; exact Arr.drewN H10.out _
              clear hwq1
              go_wp2_with fail
              go_quiet (first | with_reducible exact Calls.quiet_of (T6.out _) | with_reducible exact Calls.quiet_of (T11.out _) | with_reducible exact Calls.quiet_of (T25.out _))
              clear cK cW e43 e46 e48 e50 e51 e52 e56 e60 e88 e91 T6 T11 T25
              obtain ⟨wq2, hwq2⟩ : ∃ x, x = wq1.drewN nq := ⟨_, rfl⟩
              rw [← hwq2]
              replace v0 : wq2.cell? ⟨g10, 0, none⟩ = some (.int .u32 (S.a : Int)) := by rw [hwq2]; exact v0
              replace v1 : wq2.cell? ⟨g10, 1, none⟩ = some (.int .u32 (S.b : Int)) := by rw [hwq2]; exact v1
              replace v2 : wq2.cell? ⟨g10, 2, none⟩ = some (.int .u32 (S.c : Int)) := by rw [hwq2]; exact v2
              replace v3 : wq2.cell? ⟨g10, 3, none⟩ = some (.int .u32 (S.d : Int)) := by rw [hwq2]; exact v3
              replace v4 : wq2.cell? ⟨g10, 4, none⟩ = some (.int .u32 (S.e : Int)) := by rw [hwq2]; exact v4
              replace v5 : wq2.cell? ⟨g10, 5, none⟩ = some (.int .u32 (S.f : Int)) := by rw [hwq2]; exact v5
              replace v6 : wq2.cell? ⟨g10, 6, none⟩ = some (.int .u32 (S.g : Int)) := by rw [hwq2]; exact v6
              replace v7 : wq2.cell? ⟨g10, 7, none⟩ = some (.int .u32 (S.h : Int)) := by rw [hwq2]; exact v7
              replace HQ : Hid (Blk w wq2 g5 g2 g4 (u32s (ShaMath.sched bs)) (u32s s.list) Z8) := by rw [hwq2]; exact Blk.drewN HQ.out _
              replace H10 : Hid (Arr wq2 g10 113 (u32s S.list)) := by rw [hwq2]; exact Arr.drewN H10.out _
              clear hwq2
              obtain ⟨e65, e68, e69, e72, e73, e74⟩ := E1.out
              obtain ⟨e116, e119⟩ := E2.out
              go_wp2_with fail
              go_quiet (first | with_reducible exact Calls.quiet_of (T2.out _) | with_reducible exact Calls.quiet_of (T13.out _) | with_reducible exact Calls.quiet_of (T22.out _))
              clear e65 e68 e69 e72 e73 e74 e116 e119 T2 T13 T22
              obtain ⟨wq3, hwq3⟩ : ∃ x, x = wq2.drewN nq := ⟨_, rfl⟩
              rw [← hwq3]
              replace v0 : wq3.cell? ⟨g10, 0, none⟩ = some (.int .u32 (S.a : Int)) := by rw [hwq3]; exact v0
              replace v1 : wq3.cell? ⟨g10, 1, none⟩ = some (.int .u32 (S.b : Int)) := by rw [hwq3]; exact v1
              replace v2 : wq3.cell? ⟨g10, 2, none⟩ = some (.int .u32 (S.c : Int)) := by rw [hwq3]; exact v2
              replace v3 : wq3.cell? ⟨g10, 3, none⟩ = some (.int .u32 (S.d : Int)) := by rw [hwq3]; exact v3
              replace v4 : wq3.cell? ⟨g10, 4, none⟩ = some (.int .u32 (S.e : Int)) := by rw [hwq3]; exact v4
              replace v5 : wq3.cell? ⟨g10, 5, none⟩ = some (.int .u32 (S.f : Int)) := by rw [hwq3]; exact v5
              replace v6 : wq3.cell? ⟨g10, 6, none⟩ = some (.int .u32 (S.g : Int)) := by rw [hwq3]; exact v6
              replace v7 : wq3.cell? ⟨g10, 7, none⟩ = some (.int .u32 (S.h : Int)) := by rw [hwq3]; exact v7
              replace HQ : Hid (Blk w wq3 g5 g2 g4 (u32s (ShaMath.sched bs)) (u32s s.list) Z8) := by rw [hwq3]; exact Blk.drewN HQ.out _
              replace H10 : Hid (Arr wq3 g10 113 (u32s S.list)) := by rw [hwq3]; exact Arr.drewN H10.out _
              clear hwq3
              obtain ⟨⟨e77, f77⟩, ⟨e83, f83⟩⟩ := E3.out
              have z47 := Tryz.zeroValue113
              have HNl : Hid ((u32s (ShaMath.St.list ⟨x77, S.a, S.b, S.c, x83, S.e, S.f, S.g⟩)).length = 8) := by show _ = _; rw [u32s_len]; rfl
              have HNo : Hid _ := u32s_one (ShaMath.St.list ⟨x77, S.a, S.b, S.c, x83, S.e, S.f, S.g⟩)
              have H10l : Hid ((u32s S.list).length = 8) := by show _ = _; rw [u32s_len]; rfl
              go_wp2_with (refine wpList_store_arr rfl 113 (.tmp 10) (.tmp 153) rfl g10 113 (u32s S.list) (u32s (ShaMath.St.list ⟨x77, S.a, S.b, S.c, x83, S.e, S.f, S.g⟩)) rfl rfl H10.out (by rw [HNl.out]; exact size47) (by rw [H10l.out, HNl.out]) HNo.out ?_)
              have HQN : Hid (Blk w (wq3.setRow g10 (u32s (ShaMath.St.list ⟨x77, S.a, S.b, S.c, x83, S.e, S.f, S.g⟩)).toArray) g5 g2 g4 (u32s (ShaMath.sched bs)) (u32s s.list) Z8) := by
                obtain ⟨q1, q2, q3, q4⟩ := HQ.out
                have := HG.out
                exact ⟨q1.row_other _ (by omega), q2.row_other _ (by omega), q3.row_other _ (by omega), below_setRow q4 (by omega) _⟩
              have H10N : Hid (Arr (wq3.setRow g10 (u32s (ShaMath.St.list ⟨x77, S.a, S.b, S.c, x83, S.e, S.f, S.g⟩)).toArray) g10 113 (u32s (ShaMath.rounds (k + 1) s ShaMath.keys (ShaMath.sched bs)).list)) := by
                rw [HRD.out]; exact Arr.row H10.out
              generalize wq3.setRow g10 (u32s (ShaMath.St.list ⟨x77, S.a, S.b, S.c, x83, S.e, S.f, S.g⟩)).toArray = wq4 at *
              clear v0 v1 v2 v3 v4 v5 v6 v7 e77 f77 e83 f83 z47
              go_roundw
              case rel => exact ⟨k + 1, by omega, by go_num, HQN.out, H10N.out⟩
              case measure => simp [intOf]; omega
            · obtain rfl : k = 64 := by omega
              obtain ⟨V, hV⟩ : ∃ V, V = ShaMath.rounds 64 s ShaMath.keys (ShaMath.sched bs) := ⟨_, rfl⟩
              rw [← hV] at hSok h10
              have HV : Hid (ShaMath.comp s bs = ShaMath.addS s V) := by show _ = _; rw [hV]; rfl
              have HQ : Hid _ := hQ
              have H10 : Hid _ := h10
              clear hV hQ h10 hlt
              rw [show ((64 : Nat) : Int) = 64 from rfl]
              go_wp2_with fail
              go_loopw [16] (fun i wr => ∃ k : Nat, k ≤ 8 ∧ i = .int .i64 k ∧ Arr wr g2 113 (u32s (addAt s V k)) ∧ Arr wr g4 113 Z8 ∧ Arr wr g10 113 (u32s V.list) ∧ Below w.heap.size w wr) (fun i _ => 8 - (intOf i).toNat)
              case atStart => exact ⟨0, by omega, rfl, HQ.out.2.1, HQ.out.2.2.1, H10.out, HQ.out.2.2.2⟩
              case round =>
                clear HQ H10
                obtain ⟨k, hk, rfl, h2, h4, h10, hBw2⟩ := hrel
                by_cases hlt : k < 8
                · have hstep := addAt_step s V k hlt
                  have hcell := Arr.cell32 h2 k (by rw [addAt_len s V k (by omega)]; exact hlt)
                  rw [addAt_get s V k hlt] at hcell
                  have hc10 := Arr.cell32 h10 k (by rw [list8]; exact hlt)
                  have hfz := h2.frozen k
                  obtain ⟨x, ex, fx, gx⟩ := addw (s.list[k]?.getD 0) (V.list[k]?.getD 0)
                  rw [← gx] at hstep
                  generalize s.list[k]?.getD 0 = p at *
                  generalize V.list[k]?.getD 0 = q at *
                  have HST : Hid _ := hstep
                  have H2 : Hid _ := h2
                  have H4 : Hid _ := h4
                  have H10 : Hid _ := h10
                  have hkI : (k : Int) < 8 := by omega
                  clear hstep h2 h4 h10 gx
                  go_wp2_with fail
                  refine wp_region_held_drew (S := fun w' => w'.cell? ⟨g10, k, none⟩ = some (.int .u32 (q : Int))) rfl hc10 (fun hS => ?_)
                  refine wpAnyH_take (i := 0) (v := ?_) rfl (by kernel_rfl) (by kernel_rfl) (by kernel_rfl) (fun _ _ _ h => h) (Or.inl ⟨by rfl, ?_⟩) hS ?_
                  rotate_left 1
                  · intro w hSw; (try dsimp only at hSw); go_simp <;> with_reducible rfl
                  try simp only [List.getElem_toArray, List.getElem_cons_zero, List.getElem_cons_succ, Act.put, List.setIfInBounds_toArray, List.set_cons_zero, List.set_cons_succ]
                  refine wpAnyH_take (i := 1) (v := ?_) rfl (by kernel_rfl) (by kernel_rfl) (by kernel_rfl) (fun _ _ _ h => h) (Or.inl ⟨by rfl, ?_⟩) hS ?_
                  rotate_left 1
                  · intro w hSw; (try dsimp only at hSw); go_simp <;> with_reducible rfl
                  try simp only [List.getElem_toArray, List.getElem_cons_zero, List.getElem_cons_succ, Act.put, List.setIfInBounds_toArray, List.set_cons_zero, List.set_cons_succ]
                  refine wpAnyH_take (i := 3) (v := ?_) rfl (by kernel_rfl) (by kernel_rfl) (by kernel_rfl) (fun _ _ _ h => h) (Or.inl ⟨by rfl, ?_⟩) hS ?_
                  rotate_left 1
                  · intro w hSw; (try dsimp only at hSw); go_simp <;> with_reducible rfl
                  try simp only [List.getElem_toArray, List.getElem_cons_zero, List.getElem_cons_succ, Act.put, List.setIfInBounds_toArray, List.set_cons_zero, List.set_cons_succ]
                  refine wpAnyH_take (i := 4) (v := ?_) rfl (by kernel_rfl) (by kernel_rfl) (by kernel_rfl) (fun _ _ _ h => h) (Or.inl ⟨by rfl, ?_⟩) hS ?_
                  rotate_left 1
                  · intro w hSw; (try dsimp only at hSw); go_simp <;> with_reducible rfl
                  try simp only [List.getElem_toArray, List.getElem_cons_zero, List.getElem_cons_succ, Act.put, List.setIfInBounds_toArray, List.set_cons_zero, List.set_cons_succ]
                  refine wpAnyH_take (i := 5) (v := ?_) rfl (by kernel_rfl) (by kernel_rfl) (by kernel_rfl) (fun _ _ _ h => h) (Or.inl ⟨by rfl, ?_⟩) hS ?_
                  rotate_left 1
                  · intro w hSw; (try dsimp only at hSw); go_simp <;> with_reducible rfl
                  try simp only [List.getElem_toArray, List.getElem_cons_zero, List.getElem_cons_succ, Act.put, List.setIfInBounds_toArray, List.set_cons_zero, List.set_cons_succ]
                  refine wpAnyH_ready (rs := [2]) (by kernel_rfl) (by simp) ?_
                  refine AllReadyH.cons rfl (fun K hK => ?_) AllReadyH.nil
                  have hcell' : wr.drew.cell? ⟨g2, k, none⟩ = some (.int .u32 (p : Int)) := hcell
                  have hfz' : wr.drew.frozen? ⟨g2, k, none⟩ = false := hfz
                  go_simp
                  refine hK.out _ _ hS (fun hS => ?_)
                  clear hK K
                  try simp only [List.getElem_toArray, List.getElem_cons_zero, List.getElem_cons_succ, Act.put, List.setIfInBounds_toArray, List.set_cons_zero, List.set_cons_succ]
                  refine wpAnyH_take (i := 6) (v := ?_) rfl (by kernel_rfl) (by kernel_rfl) (by kernel_rfl) (fun _ _ _ h => h) (Or.inl ⟨by rfl, ?_⟩) hS ?_
                  rotate_left 1
                  · intro w hSw; (try dsimp only at hSw); go_simp <;> with_reducible rfl
                  try simp only [List.getElem_toArray, List.getElem_cons_zero, List.getElem_cons_succ, Act.put, List.setIfInBounds_toArray, List.set_cons_zero, List.set_cons_succ]
                  refine wpAnyH_take (i := 7) (v := ?_) rfl (by kernel_rfl) (by kernel_rfl) (by kernel_rfl) (fun _ _ _ h => h) (Or.inl ⟨by rfl, ?_⟩) hS ?_
                  rotate_left 1
                  · intro w hSw; (try dsimp only at hSw); go_simp <;> with_reducible rfl
                  try simp only [List.getElem_toArray, List.getElem_cons_zero, List.getElem_cons_succ, Act.put, List.setIfInBounds_toArray, List.set_cons_zero, List.set_cons_succ]
                  refine wpAnyH_ready (rs := [8]) (by kernel_rfl) (by simp) ?_
                  refine AllReadyH.cons rfl (fun K hK => ?_) AllReadyH.nil
                  go_simp
                  refine hK.out _ _ ?_ (fun hS => ?_)
                  · show (wr.setCell _ _).cell? _ = _
                    rw [World.cell?_setCell_other _ _ _ _ (by intro e; injection e with e; have := HG.out; omega)]; exact hS
                  clear hK K
                  try simp only [List.getElem_toArray, List.getElem_cons_zero, List.getElem_cons_succ, Act.put, List.setIfInBounds_toArray, List.set_cons_zero, List.set_cons_succ]
                  refine wpAnyH_done (by kernel_rfl) ?_ _
                  clear hS hcell' hfz' hcell hfz hc10
                  go_wp2
                  go_roundw
                  case rel => exact ⟨k + 1, by omega, by go_num, by rw [HST.out, ← u32s_set]; exact Arr.drew (Arr.set H2.out _ _), Arr.drew (Arr.set_other H4.out _ (by show g4 ≠ g2; have := HG.out; omega) _), Arr.drew (Arr.set_other H10.out _ (by show g10 ≠ g2; have := HG.out; omega) _), (hBw2.setCell (by show w.heap.size ≤ g2; have := HG.out; omega) _).drew⟩
                  case measure => simp [intOf]; omega
                · obtain rfl : k = 8 := by omega
                  rw [addAt_end] at h2
                  have H2 : Hid _ := h2
                  have H4 : Hid _ := h4
                  clear h2 h4 hlt h10
                  have HR8 : Hid ((u32s (ShaMath.addS s V).list).length = 8) := by show _ = _; rw [u32s_len]; rfl
                  have HOr : Hid _ := u32s_one (ShaMath.addS s V).list
                  obtain ⟨Y, hY⟩ : ∃ Y, Y = u32s (ShaMath.addS s V).list := ⟨_, rfl⟩
                  rw [← hY] at HR8 HOr H2
                  have HY : Hid (Y = u32s (ShaMath.comp s bs).list) := by show _ = _; rw [hY, HV.out]
                  clear hY
                  go_wp2_with (first
                    | (refine wpList_load_mid rfl 113 (.tmp 2) rfl g2 0 rfl Y (.array 8 112) (range_of_arr H2.out) Tryz.underlying113 rfl (by rw [HR8.out]; exact size47) ?_)
                    | (refine wpList_store_arr rfl 113 (.tmp 4) (.tmp 166) rfl g4 113 Z8 Y rfl rfl H4.out (by rw [HR8.out]; exact size47) (by rw [HZ8l.out, HR8.out]) HOr.out ?_))
                  (try simp only [Exit.inBlock, Exit.then])
                  refine ret_arr g4 113 Y (.array 8 112) rfl rfl (Arr.row H4.out) Tryz.underlying113 rfl (by rw [HR8.out]; exact size47) rfl ⟨by rw [HY.out], below_setRow hBw2 (by have := HG.out; omega) _⟩

end Go.Proofs.YteockpllnhjooaaGreatDoor
namespace Go.Proofs.YteockpllnhjooaaGreatDoor
open Go.RowKit NumMath
set_option maxRecDepth 100000
set_option linter.unusedVariables false
set_option linter.unusedSimpArgs false
attribute [-simp] Tryz.isAgg131 Tryz.zeroValue131 Tryz.isAgg113 Tryz.zeroValue113 Tryz.isAgg33 Tryz.zeroValue33

theorem allB_take_le (ps : List Part) (k : Nat) : (allB (ps.take k)).length ≤ (allB ps).length := by
  have h : allB ps = allB (ps.take k) ++ allB (ps.drop k) := by
    unfold allB
    rw [← List.flatMap_append, List.take_append_drop]
  rw [h, List.length_append]; omega
theorem fix8_ints (n : Nat) : fixL 8 ((n : Nat) : Int) = ints (ShaMath.fix8 n) := by
  simp only [fixL_head, fixL, ints, ShaMath.fix8, List.map]
  simp
  refine ⟨?_, ?_, ?_, ?_, ?_, ?_⟩ <;> omega
theorem ints_nats {zs : List Int} (h : ∀ c ∈ zs, 0 ≤ c ∧ c ≤ 255) : ints (nats zs) = zs := by
  unfold ints nats
  rw [List.map_map]
  exact (List.map_congr_left (fun x hx => by have := h x hx; simp; omega)).trans (List.map_id _)
theorem ints_append (a b : List Nat) : ints (a ++ b) = ints a ++ ints b := by simp [ints]
/-- What stands so far behind the bytes: the bit and j zeros. -/
def padUp (m : List Nat) (j : Nat) : List Nat := m ++ 128 :: List.replicate j 0
theorem padUp_len (m : List Nat) (j : Nat) : (padUp m j).length = m.length + 1 + j := by simp [padUp]; omega
theorem padUp_step (m : List Nat) (j : Nat) : padUp m (j + 1) = padUp m j ++ [0] := by
  unfold padUp; rw [List.replicate_succ']; simp
theorem padUp_end (m : List Nat) : padUp m (ShaMath.zerosOf m.length) ++ ShaMath.fix8 (8 * m.length) = m ++ ShaMath.pad m.length := by
  simp [padUp, ShaMath.pad]

theorem Row.setRow_other {k : IntKind} {w : World} {b off : Nat} {zs : List Int} (h : Row k w (some ⟨b, off, none⟩) zs) {g : Nat} (cs : Array Value) (hg : b ≠ g) : Row k (w.setRow g cs) (some ⟨b, off, none⟩) zs := by
  rcases h with h | ⟨b', off', ha, hc⟩
  · exact .inl h
  · have ha' : b = b' ∧ off = off' := by simpa using ha
    obtain ⟨rfl, rfl⟩ := ha'
    refine .inr ⟨b, off, rfl, fun i hi => ?_⟩
    rw [cell_setRow_other w g cs _ (by exact hg)]; exact hc i hi
theorem row_piece {w : World} {b : Nat} {l : List Nat} (h : Row .u8 w (some ⟨b, 0, none⟩) (ints l)) (p n : Nat) : Row .u8 w (some ⟨b, p, none⟩) (ints ((l.drop p).take n)) := by
  rcases h with h | ⟨b', off', ha, hc⟩
  · left
    have : l = [] := by have := congrArg List.length h; rw [ints_len] at this; exact List.eq_nil_of_length_eq_zero this
    rw [this]; simp [ints]
  · have ha' : b = b' ∧ 0 = off' := by simpa using ha
    obtain ⟨rfl, rfl⟩ := ha'
    refine .inr ⟨b, p, rfl, fun i hi => ?_⟩
    have hi' : i < n ∧ p + i < l.length := by rw [ints_len, List.length_take, List.length_drop] at hi; omega
    have := hc (p + i) (by rw [ints_len]; exact hi'.2)
    rw [Nat.zero_add] at this
    rw [this]
    simp [ints, hi'.1]
/-- What stays while the blocks go through. -/
def Dg (w wr : World) (g : Nat) (MM : List Nat) (Z : List Value) : Prop := Row .u8 wr (some ⟨g, 0, none⟩) (ints MM) ∧ Arr wr w.heap.size 33 Z ∧ Below w.heap.size w wr
theorem Dg.below {w wr w' : World} {g : Nat} {MM : List Nat} {Z : List Value} (h : Dg w wr g MM Z) (hb : Below wr.heap.size wr w') : Dg w w' g MM Z := ⟨Row.later h.1 hb, h.2.1.later hb h.2.1.lt, h.2.2.trans (hb.mono h.2.2.size)⟩
theorem Dg.drew {w wr : World} {g : Nat} {MM : List Nat} {Z : List Value} (h : Dg w wr g MM Z) : Dg w wr.drew g MM Z := ⟨h.1.drew, h.2.1.drew, h.2.2.drew⟩

set_option maxRecDepth 4000 in
set_option maxHeartbeats 4000000 in
theorem digest_any (a : Option Addr) (ps : List Part) (cap : Nat) (w : World) (ht : RefTab w) (htl : 2 < w.heap.size) (hr : Parts w a ps) (hnil : ∀ p ∈ ps, p.a = none → p.cap = 0) (hc : ps.length ≤ cap) (hm : cap ≤ maxLen) (hn : (allB ps).length ≤ 1099511627776) :
    Calls Tryz.prog 39 #[.slice a ps.length cap] w fun e w' => e = .returned (.agg (u8v (ShaMath.digest (nats (allB ps)))).toArray) ∧ Below w.heap.size w w' := by
  obtain ⟨i0, hi, hz0, hz1, hz2⟩ := info_parts Tryz.info5
  unfold maxLen at hm
  obtain ⟨z26, i26⟩ := zero_of_info zero26
  obtain ⟨Z, hZ⟩ : ∃ Z, Z = u8v (List.replicate 32 0) := ⟨_, rfl⟩
  rw [← hZ] at z26
  have HZ : Hid (Z = u8v (List.replicate 32 0)) := hZ
  have HZl : Hid (Z.length = 32) := by show _ = _; rw [hZ, u8v_len]; simp
  obtain ⟨z47, i47⟩ := zero_of_info zero47
  obtain ⟨Z8, hZ8⟩ : ∃ Z, Z = u32s (List.replicate 8 0) := ⟨_, rfl⟩
  rw [← hZ8] at z47
  have HZ8l : Hid (Z8.length = 8) := by show _ = _; rw [hZ8, u32s_len]; simp
  obtain ⟨I0, hI0⟩ : ∃ I, I = u32s ShaMath.init.list := ⟨_, rfl⟩
  have HI0 : Hid _ := hI0
  have HI8 : Hid (I0.length = 8) := by show _ = _; rw [hI0, u32s_len]; rfl
  have HIo : Hid (∀ v ∈ I0, v.oneCell' = true) := by rw [hI0]; exact u32s_one _
  have HBI : Hid (Tryz.prog.built 113 [(0, .int .u32 1779033703), (1, .int .u32 3144134277), (2, .int .u32 1013904242), (3, .int .u32 2773480762), (4, .int .u32 1359893119), (5, .int .u32 2600822924), (6, .int .u32 528734635), (7, .int .u32 1541459225)] = some I0.toArray) := by show _ = _; rw [hI0]; kernel_rfl
  clear hZ8 i47 hI0
  obtain ⟨n, hn0⟩ : ∃ n, n = ps.length := ⟨_, rfl⟩
  rw [← hn0] at hc ⊢
  have HN : Hid (n = ps.length) := hn0
  have HT : Hid _ := ht
  have hall := allB_byte (fun p hp => hr.2 p hp)
  have HAB : Hid _ := hall
  have hat : ∀ w', Below w.heap.size w w' → ∀ j, j < n → ∃ b off, a = some ⟨b, off, none⟩ ∧ w'.cell? ⟨b, off + j, none⟩ = some (ps[j]?.getD noPart).val ∧ (ps[j]?.getD noPart).ok w' ∧ ((ps[j]?.getD noPart).a = none → (ps[j]?.getD noPart).cap = 0) := by
    intro w' hB j hj
    have hr' := hr.later hB
    rcases hr'.1 with h | ⟨b, off, ha, hcell⟩
    · rw [h] at hn0; simp at hn0; omega
    · exact ⟨b, off, ha, hcell j (by omega), hr'.2 _ (part_mem ps j (by omega)), hnil _ (part_mem ps j (by omega))⟩
  have HAT : Hid _ := hat
  obtain ⟨T, hT⟩ : ∃ T, T = (allB ps).length := ⟨_, rfl⟩
  have HTT : Hid (T = (allB ps).length) := hT
  have hle : ∀ k, (allB (ps.take k)).length ≤ T := fun k => by rw [hT]; exact allB_take_le ps k
  have HLE : Hid _ := hle
  rw [← hT] at hn
  clear hat hn0 hr hnil hT hle ht hall hZ i26
  have HA1 : Hid (Arr (w.alloc (Obj.cells Z.toArray 33)) w.heap.size 33 Z) := Arr.new w 33 Z rfl
  have HB1 : Hid (Below w.heap.size w (w.alloc (Obj.cells Z.toArray 33))) := (Below.refl _ _).alloc (Nat.le_refl _) _
  have HS1 : Hid ((w.alloc (Obj.cells Z.toArray 33)).heap.size = w.heap.size + 1) := by show _ = _; simp
  go_enter Tryz.func39, Tryz.ntmps39
  go_wp2_with fail
  generalize (w.alloc (Obj.cells Z.toArray 33)) = w1 at *
  go_loopw [3, 4] (fun x i wr => ∃ k m : Nat, k ≤ n ∧ i = .int .i64 k ∧ m = (allB (ps.take k)).length ∧ wr.ownsRow w1.heap.size 5 1 x m ((allB (ps.take k)).map (Value.int .u8)) ∧ Below w1.heap.size w1 wr) (fun _ i _ => n - (intOf i).toNat)
  case atStart => exact ⟨0, 0, by omega, rfl, by simp [allB], by simpa [allB] using World.ownsRow_nil _ _ _ _, Below.refl _ _⟩
  case round =>
    obtain ⟨k, m, hk, rfl, hm1, hown, hB⟩ := hrel
    have HM1 : Hid (m = (allB (ps.take k)).length) := hm1
    have hmT : m ≤ T := by rw [hm1]; exact HLE.out k
    have hBw : Below w.heap.size w wr := HB1.out.trans (hB.mono HB1.out.size)
    clear hm1
    by_cases hlt : k < n
    · obtain ⟨b, off, hal, hcl, hok, hpn⟩ := HAT.out _ hBw k hlt
      obtain ⟨p, hp⟩ : ∃ p, p = ps[k]?.getD noPart := ⟨_, rfl⟩
      rw [← hp] at hcl hok hpn
      unfold Part.val at hcl
      have HNX : Hid (allB (ps.take (k + 1)) = allB (ps.take k) ++ p.zs) := by rw [hp]; exact parts_snoc ps k (by have := HN.out; omega)
      have hnx : m + p.zs.length ≤ T := by
        have := HLE.out (k + 1)
        rw [HNX.out, List.length_append, ← HM1.out] at this
        exact this
      have HPN : Hid (p.a = none → p.zs.length = 0 ∧ p.cap = 0) := fun h => by have := hpn h; have := hok.2.2.1; omega
      have hpr := hok.1
      have hpc := hok.2.2.1
      have hpm := hok.2.2.2
      unfold maxLen at hpm
      subst hal
      clear hp hok hpn
      go_wp2_with (at_builtin; refine wpList_append_own_any rfl (.tmp 16) (.tmp 20) 48 rfl w1.heap.size 5 i0 (.int .u8 0) 1 1 Tryz.underlying48 hi hz0 hz1 hz2 rfl (by decide) _ m _ rfl hown p.a p.zs.length p.cap (p.zs.map (Value.int .u8)) rfl (by rw [List.length_map, Nat.mul_one]) HPN.out hpr.news (ints_oneCell _ _) (by unfold maxLen; omega) (by omega) hB.size ?_; intro v5 w5 hown5 hgrow5)
      have hB5 := hB.grown hgrow5 hB.size (own_ge hown)
      go_roundw
      case rel => exact ⟨k + 1, m + p.zs.length, by omega, by go_num, by rw [HNX.out, List.length_append, ← HM1.out], by rw [HNX.out, List.map_append]; exact hown5, hB5⟩
      case measure => simp [intOf]; omega
    · have hkn : k = n := by omega
      have hE : ps.take k = ps := by rw [hkn, HN.out]; exact List.take_of_length_le (Nat.le_refl _)
      have hmm : m = T := by rw [HM1.out, hE, HTT.out]
      rw [hE, hmm] at hown
      obtain ⟨M, hM⟩ : ∃ M, M = nats (allB ps) := ⟨_, rfl⟩
      have hMi : allB ps = ints M := by rw [hM]; exact (ints_nats HAB.out).symm
      have hMl : M.length = T := by rw [hM, HTT.out]; simp [nats]
      have HMb : Hid (∀ c ∈ M, c < 256) := by rw [hM]; exact nats_byte HAB.out
      rw [hMi] at hown
      have HM : Hid (M = nats (allB ps)) := hM
      have HMl : Hid _ := hMl
      obtain ⟨a3, c3, hv3, hrow3, hc3, hm3, hn3⟩ := own_shape hown
      subst hv3
      rw [ints_len, hMl] at hc3 hown ⊢
      have hd : decide ((k : Int) < (n : Int)) = false := by simp; omega
      obtain ⟨Bt, hBt, gBt⟩ : ∃ q : Nat, (T : Int) * 8 = (q : Int) ∧ q = 8 * T := ⟨8 * T, by omega, rfl⟩
      have HBt : Hid _ := gBt
      have hBtl : Bt ≤ 8796093022208 := by omega
      clear hE hkn hmm hMi hM hMl hrow3 gBt
      go_wp2_with (at_builtin; refine wpList_append_own_any rfl (.tmp 26) (.tmp 27) 48 rfl w1.heap.size 5 i0 (.int .u8 0) 1 1 Tryz.underlying48 hi hz0 hz1 hz2 rfl (by decide) _ T _ rfl (hown.alloc _) (some ⟨wr.heap.size, 0, none⟩) 1 1 ([128].map (Value.int .u8)) rfl rfl (by intro h; cases h) (lit_row _ .u8 [128] 5 _ rfl).news (ints_oneCell _ _) (by unfold maxLen; omega) (by omega) (by simp; have := hB.size; omega) ?_; intro v4 w4 hown4 hgrow4; have hB4 := (hB.alloc hB.size _).grown hgrow4 (by simp; have := hB.size; omega) (own_ge hown); clear hgrow4)
      have HO4 : Hid (w4.ownsRow w1.heap.size 5 1 v4 (T + 1 + 0) ((ints (padUp M 0)).map (Value.int .u8))) := by
        show World.ownsRow _ _ _ _ _ _ _
        rw [show padUp M 0 = M ++ [128] from rfl, ints_append, List.map_append]; exact hown4
      have HB4 : Hid _ := hB4
      obtain ⟨z, hz⟩ : ∃ z, z = ShaMath.zerosOf T := ⟨_, rfl⟩
      have hzl : z < 64 := by rw [hz]; exact Nat.mod_lt _ (by decide)
      have hz56 : (T + 1 + z) % 64 = 56 := by rw [hz]; unfold ShaMath.zerosOf; omega
      have HZ0 : Hid _ := hz
      clear hown hown4 hB4 hB hz
      go_loopw [3] (fun x wr => ∃ j : Nat, j ≤ z ∧ wr.ownsRow w1.heap.size 5 1 x (T + 1 + j) ((ints (padUp M j)).map (Value.int .u8)) ∧ Below w1.heap.size w1 wr) (fun x _ => (match x with | .slice _ n _ => T + 100 - n | _ => 0))
      case atStart => exact ⟨0, by omega, HO4.out, HB4.out⟩
      case round =>
        clear HO4 HB4
        obtain ⟨j, hj, hown, hB⟩ := hrel
        obtain ⟨gm, cm, hvm, hgm, hncm, hcmm⟩ := own_some hown (by omega)
        subst hvm
        have hcm' : cm ≤ 9223372036854775807 := by unfold maxLen at hcmm; omega
        obtain ⟨L, hL, gL⟩ : ∃ L : Nat, T + 1 + j = L ∧ L = T + 1 + j := ⟨_, rfl, rfl⟩
        rw [hL] at hown hncm ⊢
        have HLj : Hid _ := gL
        by_cases hlt : j < z
        · have hne : (((L : Nat) : Int) % 64 != 56) = true := by simp; omega
          have hLl : L ≤ T + 70 := by omega
          clear hL gL
          go_wp2_with (at_builtin; refine wpList_append_own_any rfl (.tmp 33) (.tmp 34) 48 rfl w1.heap.size 5 i0 (.int .u8 0) 1 1 Tryz.underlying48 hi hz0 hz1 hz2 rfl (by decide) _ L _ rfl (hown.alloc _) (some ⟨wr.heap.size, 0, none⟩) 1 1 ([0].map (Value.int .u8)) rfl rfl (by intro h; cases h) (lit_row _ .u8 [0] 5 _ rfl).news (ints_oneCell _ _) (by unfold maxLen; omega) (by omega) (by simp; have := hB.size; omega) ?_; intro v5 w5 hown5 hgrow5)
          have hB5 := (hB.alloc hB.size _).grown hgrow5 (by simp; have := hB.size; omega) (own_ge hown)
          obtain ⟨g5, c5, hv5, _, _, _⟩ := own_some hown5 (by omega)
          subst hv5
          go_roundw
          case rel => exact ⟨j + 1, by omega, by rw [padUp_step, ints_append, List.map_append, show T + 1 + (j + 1) = L + 1 by have := HLj.out; omega]; exact hown5, hB5⟩
          case measure => show T + 100 - (L + 1) < T + 100 - L; omega
        · have hjz : j = z := by omega
          have hne : (((L : Nat) : Int) % 64 != 56) = false := by simp; omega
          have hLl : L ≤ T + 70 := by omega
          rw [hjz] at hown
          have HOW : Hid _ := hown
          clear hL gL hown hjz
          go_wp2_with fail
          refine Calls.mono (refFixed_any (Bt : Int) 8 wr (by omega) (by omega) (by decide) (by decide)) ?_
          rintro e w6 ⟨r6, rfl, hown6, hB6⟩
          rw [show held 8 = 8 from rfl] at hown6
          obtain ⟨g6, c6, hv6, _, hc6, hm6⟩ := own_some hown6 (by omega)
          subst hv6
          have hrow6 := own_shape hown6
          obtain ⟨a6, cc6, hv6, hrow6, _, _, _⟩ := hrow6
          rw [fixL_len] at hv6
          have hv6a : some ⟨g6, 0, none⟩ = a6 := by injection hv6
          rw [← hv6a] at hrow6
          have hown7 : w6.ownsRow w1.heap.size 5 1 (.slice (some ⟨gm, 0, none⟩) L cm) L ((ints (padUp M z)).map (Value.int .u8)) := World.ownsRow.kept HOW.out ⟨hB6.os, hB6.tape, hB6.output, hB6.size, fun k hk _ => hB6.block k hk⟩ (row := none) (by simp [Value.ownBlock])
          have hB7 : Below w1.heap.size w1 w6 := hB.trans (hB6.mono hB.size)
          clear hv6 hv6a hown6
          go_wp2_with (first | (refine wpList_build_is rfl 113 _ rfl [(0, .int .u32 1779033703), (1, .int .u32 3144134277), (2, .int .u32 1013904242), (3, .int .u32 2773480762), (4, .int .u32 1359893119), (5, .int .u32 2600822924), (6, .int .u32 528734635), (7, .int .u32 1541459225)] (by simp [Act.eval]) I0.toArray HBI.out ?_) | (refine wpList_store_arr rfl 113 (.tmp 6) (.tmp 40) rfl w8.heap.size 113 Z8 I0 rfl rfl (Arr.new w8 113 Z8 rfl) (by rw [HI8.out]; exact size47) (by rw [HZ8l.out, HI8.out]) HIo.out ?_) | (at_builtin; refine wpList_append_own_any rfl (.tmp 36) (.tmp 38) 48 rfl w1.heap.size 5 i0 (.int .u8 0) 1 1 Tryz.underlying48 hi hz0 hz1 hz2 rfl (by decide) _ L _ rfl hown7 (some ⟨g6, 0, none⟩) 8 c6 ((fixL 8 (Bt : Int)).map (Value.int .u8)) rfl (by rw [List.length_map, fixL_len]) (by intro h; cases h) hrow6.news (ints_oneCell _ _) (by unfold maxLen; omega) (by omega) hB7.size ?_; intro v8 w8 hown8 hgrow8; have hB8 := hB7.grown hgrow8 hB7.size (own_ge hown7); obtain ⟨g8, c8, hv8, hg8, hnc8, hcm8⟩ := own_some hown8 (by omega); subst hv8; clear hgrow8 hown7))
          obtain ⟨gh, hgh⟩ : ∃ g, g = w8.heap.size := ⟨_, rfl⟩
          have hlt8 := hown8.lt g8 rfl
          have HMM : Hid (padUp M z ++ ShaMath.fix8 Bt = M ++ ShaMath.pad M.length) := by show _ = _; rw [HZ0.out, ← HMl.out, HBt.out, ← HMl.out]; exact padUp_end M
          have hrow8 : Row .u8 w8 (some ⟨g8, 0, none⟩) (ints (M ++ ShaMath.pad M.length)) := by
            have hl8 : (ints (padUp M z) ++ fixL 8 (Bt : Int)).length = L + 8 := by rw [List.length_append, fixL_len, ints_len, padUp_len, HMl.out]; have := HLj.out; omega
            rw [← List.map_append] at hown8
            have := own_row hown8 (L + 8) (Nat.le_refl _)
            rw [List.take_of_length_le (by omega), fix8_ints, ← ints_append, HMM.out] at this
            exact this
          have HLM : Hid (L + 8 = (M ++ ShaMath.pad M.length).length) := by show _ = _; rw [← HMM.out, List.length_append, padUp_len, HMl.out]; have := HLj.out; simp [ShaMath.fix8]; omega
          have HMMb : Hid (∀ c ∈ M ++ ShaMath.pad M.length, c < 256) := by
            intro c hc
            rcases List.mem_append.1 hc with h | h
            · exact HMb.out c h
            · exact pad_lt _ c h
          have HDI : Hid (ShaMath.digest M = ShaMath.out (ShaMath.runN ((M ++ ShaMath.pad M.length).length / 64) ShaMath.init (M ++ ShaMath.pad M.length))) := rfl
          have HWH : Hid ((M ++ ShaMath.pad M.length).length % 64 = 0) := by show _ = _; rw [List.length_append]; exact ShaMath.pad_whole _
          obtain ⟨MM, hMM⟩ : ∃ MM, MM = M ++ ShaMath.pad M.length := ⟨_, rfl⟩
          rw [← hMM] at hrow8 HLM HMMb HDI HWH
          have hBw8 : Below w.heap.size w w8 := HB1.out.trans (hB8.mono HB1.out.size)
          have hA18 : Arr w8 w.heap.size 33 Z := Arr.later HA1.out hB8 (by have := HS1.out; omega)
          have HDG0 : Hid (Dg w ((w8.alloc (Obj.cells Z8.toArray 113)).setRow w8.heap.size I0.toArray) g8 MM Z) := by
            refine ⟨Row.setRow_other (Row.later hrow8 ((Below.refl _ _).alloc (Nat.le_refl _) _)) _ (by omega), (hA18.alloc _).row_other _ (by have := hA18.lt; omega), below_setRow (hBw8.alloc hBw8.size _) hBw8.size _⟩
          have HAH0 : Hid (Arr ((w8.alloc (Obj.cells Z8.toArray 113)).setRow w8.heap.size I0.toArray) gh 113 (u32s (ShaMath.runN 0 ShaMath.init MM).list)) := by
            rw [hgh]
            have := Arr.row (l' := I0) (Arr.new w8 113 Z8 rfl)
            rw [HI0.out] at this ⊢
            exact this
          have hghw : w.heap.size < gh := by rw [hgh]; exact hA18.lt
          have hg8h : g8 ≠ gh := by omega
          rw [← hgh] at HDG0 HAH0 ⊢
          generalize ((w8.alloc (Obj.cells Z8.toArray 113)).setRow gh I0.toArray) = w9 at *
          clear hgh hlt8 hrow8 hMM hB8 hBw8 hA18 hown8 HOW hB hB7 hB6 hrow6
          obtain ⟨LL, hLL⟩ : ∃ q, q = L + 8 := ⟨_, rfl⟩
          rw [← hLL] at hnc8 HLM ⊢
          have hLLl : LL ≤ 1099511628000 := by omega
          have hcm8' : c8 ≤ 9223372036854775807 := by unfold maxLen at hcm8; omega
          clear hLL
          go_loopw [7] (fun i wr => ∃ (A q : Nat), A ≤ LL ∧ i = .int .i64 A ∧ A = 64 * q ∧ Dg w wr g8 MM Z ∧ Arr wr gh 113 (u32s (ShaMath.runN q ShaMath.init MM).list)) (fun i _ => LL - (intOf i).toNat)
          case atStart => exact ⟨0, 0, by omega, rfl, rfl, HDG0.out, HAH0.out⟩
          case round =>
            clear HDG0 HAH0
            obtain ⟨A, q, hA, rfl, hAq, hD, hH⟩ := hrel
            have hwh : LL % 64 = 0 := by rw [HLM.out]; exact HWH.out
            by_cases hlt : A < LL
            · have hA64 : A + 64 ≤ LL := by omega
              have HAq : Hid _ := hAq
              have hpl : ((MM.drop (64 * q)).take 64).length = 64 := by rw [List.length_take, List.length_drop, ← HLM.out]; omega
              have hpb : ∀ c ∈ (MM.drop (64 * q)).take 64, c < 256 := fun c hc => HMMb.out c (ShaMath.mem_piece hc)
              have hok := ShaMath.runN_ok q ShaMath.init MM ShaMath.init_ok
              have hsn := ShaMath.runN_snoc q ShaMath.init MM
              have hbk : ∀ w', Below wr.heap.size wr w' → Calls Tryz.prog 67 #[.agg (u32s (ShaMath.runN q ShaMath.init MM).list).toArray, .slice (some ⟨g8, A, none⟩) 64 (c8 - A)] w' fun e w2 => e = .returned (.agg (u32s (ShaMath.runN (q + 1) ShaMath.init MM).list).toArray) ∧ Below w'.heap.size w' w2 := by
                intro w' h
                rw [hsn]
                refine block_any (ShaMath.runN q ShaMath.init MM) ((MM.drop (64 * q)).take 64) (some ⟨g8, A, none⟩) (c8 - A) w' (RefTab.later HT.out (hD.2.2.trans (h.mono hD.2.2.size)) htl) (by have := h.size; have := hD.2.2.size; omega) hok hpl hpb ?_ (by omega) (by unfold maxLen; omega)
                have hr := Row.later hD.1 h
                rw [hAq]
                exact row_piece hr (64 * q) 64
              have HBK : Hid _ := hbk
              have HD : Hid _ := hD
              have HH : Hid _ := hH
              have HSl : Hid ((u32s (ShaMath.runN q ShaMath.init MM).list).length = 8) := by show _ = _; rw [u32s_len]; rfl
              have HNl : Hid ((u32s (ShaMath.runN (q + 1) ShaMath.init MM).list).length = 8) := by show _ = _; rw [u32s_len]; rfl
              have HNo : Hid _ := u32s_one (ShaMath.runN (q + 1) ShaMath.init MM).list
              generalize u32s (ShaMath.runN q ShaMath.init MM).list = Sq at *
              obtain ⟨Sn, hSn⟩ : ∃ S, S = u32s (ShaMath.runN (q + 1) ShaMath.init MM).list := ⟨_, rfl⟩
              have HSn : Hid _ := hSn
              rw [← hSn] at HBK HNl HNo
              have hcne : ¬ c8 = A := by omega
              have hAI : (A : Int) ≤ (A : Int) + 64 := by omega
              have hAI2 : (A : Int) + 64 ≤ (c8 : Int) := by omega
              have hd : decide ((A : Int) < (LL : Int)) = true := by simp; omega
              have hA64e : A + 64 - A = 64 := by omega
              have hAw : IntKind.i64.wrap ((A : Int) + 64) = (A : Int) + 64 := IntWalk.i64_in _ ⟨by omega, by omega⟩
              have hAt : ((A : Int) + 64).toNat = A + 64 := by omega
              clear hAq hpl hpb hok hsn hbk hD hH hSn
              go_wp2_with fail
              refine wp_region_held_drew (S := fun _ => True) rfl trivial (fun hS => ?_)
              refine wpAnyH_take (i := 1) (v := ?_) rfl (by kernel_rfl) (by kernel_rfl) (by kernel_rfl) (fun _ _ _ h => h) (Or.inl ⟨by rfl, ?_⟩) hS ?_
              rotate_left 1
              · intro w hSw; (try dsimp only at hSw); go_simp <;> with_reducible rfl
              try simp only [List.getElem_toArray, List.getElem_cons_zero, List.getElem_cons_succ, Act.put, List.setIfInBounds_toArray, List.set_cons_zero, List.set_cons_succ]
              refine wpAnyH_take (i := 2) (v := ?_) rfl (by kernel_rfl) (by kernel_rfl) (by kernel_rfl) (fun _ _ _ h => h) (Or.inl ⟨by rfl, ?_⟩) hS ?_
              rotate_left 1
              · intro w hSw; (try dsimp only at hSw); go_simp <;> with_reducible rfl
              try simp only [List.getElem_toArray, List.getElem_cons_zero, List.getElem_cons_succ, Act.put, List.setIfInBounds_toArray, List.set_cons_zero, List.set_cons_succ]
              refine wpAnyH_take (i := 3) (v := ?_) rfl (by kernel_rfl) (by kernel_rfl) (by kernel_rfl) (fun _ _ _ h => h) (Or.inl ⟨by rfl, ?_⟩) hS ?_
              rotate_left 1
              · intro w hSw; (try dsimp only at hSw); go_simp <;> with_reducible rfl
              try simp only [List.getElem_toArray, List.getElem_cons_zero, List.getElem_cons_succ, Act.put, List.setIfInBounds_toArray, List.set_cons_zero, List.set_cons_succ]
              refine wpAnyH_take (i := 4) (v := ?_) rfl (by kernel_rfl) (by kernel_rfl) (by kernel_rfl) (fun _ _ _ h => h) (Or.inl ⟨by rfl, ?_⟩) hS ?_
              rotate_left 1
              · intro w hSw; (try dsimp only at hSw); go_simp <;> with_reducible rfl
              try simp only [List.getElem_toArray, List.getElem_cons_zero, List.getElem_cons_succ, Act.put, List.setIfInBounds_toArray, List.set_cons_zero, List.set_cons_succ]
              refine wpAnyH_take (i := 5) (v := ?_) rfl (by kernel_rfl) (by kernel_rfl) (by kernel_rfl) (fun _ _ _ h => h) (Or.inl ⟨by rfl, ?_⟩) hS ?_
              rotate_left 1
              · intro w hSw; (try dsimp only at hSw); go_simp <;> with_reducible rfl
              try simp only [List.getElem_toArray, List.getElem_cons_zero, List.getElem_cons_succ, Act.put, List.setIfInBounds_toArray, List.set_cons_zero, List.set_cons_succ]
              refine wpAnyH_ready (rs := [0]) (by kernel_rfl) (by simp) ?_
              refine AllReadyH.cons rfl (fun K hK => ?_) AllReadyH.nil
              rw [if_pos (by rfl)]
              refine wp_load_mid 113 (.tmp 6) rfl gh 0 rfl Sq (.array 8 112) (range_of_arr (Arr.drew HH.out)) Tryz.underlying113 rfl (by rw [HSl.out]; exact size47) ?_
              refine hK.out _ _ hS (fun hS => ?_)
              clear hK K
              try simp only [List.getElem_toArray, List.getElem_cons_zero, List.getElem_cons_succ, Act.put, List.setIfInBounds_toArray, List.set_cons_zero, List.set_cons_succ]
              refine wpAnyH_ready (rs := [6]) (by kernel_rfl) (by simp) ?_
              refine AllReadyH.cons rfl (fun K hK => ?_) AllReadyH.nil
              go_simp
              refine Calls.mono (HBK.out _ (Below.refl _ _).drew) ?_
              rintro e wx ⟨rfl, hBx⟩
              have HDx : Hid (Dg w wx g8 MM Z) := Dg.below (Dg.drew HD.out) hBx
              have HHx : Hid (Arr wx gh 113 Sq) := Arr.later (Arr.drew HH.out) hBx (Arr.lt HH.out)
              clear hBx
              refine hK.out _ _ trivial (fun hS => ?_)
              clear hK K
              try simp only [List.getElem_toArray, List.getElem_cons_zero, List.getElem_cons_succ, Act.put, List.setIfInBounds_toArray, List.set_cons_zero, List.set_cons_succ]
              refine wpAnyH_ready (rs := [7]) (by kernel_rfl) (by simp) ?_
              refine AllReadyH.cons rfl (fun K hK => ?_) AllReadyH.nil
              rw [if_pos (by rfl)]
              refine wp_store_seg 113 (.tmp 6) (.tmp 53) rfl gh 0 113 Sq Sn rfl rfl HHx.out (by rw [HNl.out]; exact size47) (by rw [HNl.out, HSl.out]; exact Nat.le_refl _) HNo.out ?_
              rw [show Sq.take 0 ++ Sn ++ Sq.drop (0 + Sn.length) = Sn by rw [HNl.out, List.take_zero, List.nil_append, List.drop_eq_nil_of_le (by rw [HSl.out]; exact Nat.le_refl _), List.append_nil]]
              refine hK.out _ _ trivial (fun hS => ?_)
              clear hK K hS
              try simp only [List.getElem_toArray, List.getElem_cons_zero, List.getElem_cons_succ, Act.put, List.setIfInBounds_toArray, List.set_cons_zero, List.set_cons_succ]
              refine wpAnyH_done (by kernel_rfl) ?_ _
              have HDy : Hid (Dg w (wx.setRow gh Sn.toArray) g8 MM Z) := ⟨Row.setRow_other HDx.out.1 _ hg8h, HDx.out.2.1.row_other _ (by omega), below_setRow HDx.out.2.2 (by omega) _⟩
              have HHy : Hid (Arr (wx.setRow gh Sn.toArray) gh 113 (u32s (ShaMath.runN (q + 1) ShaMath.init MM).list)) := by rw [← HSn.out]; exact Arr.row HHx.out
              generalize wx.setRow gh Sn.toArray = wy at *
              go_wp2
              go_roundw
              case rel => exact ⟨A + 64, q + 1, by omega, by go_num, by have := HAq.out; omega, HDy.out, HHy.out⟩
              case measure => simp [intOf]; omega
            · have hAL : A = LL := by omega
              have hq : q = MM.length / 64 := by rw [← HLM.out]; omega
              rw [hq] at hH
              have HDI2 := HDI.out
              generalize ShaMath.runN (MM.length / 64) ShaMath.init MM = S at *
              have HDI3 : Hid _ := HDI2
              have HD : Hid _ := hD
              have HH : Hid _ := hH
              have hd : decide ((A : Int) < (LL : Int)) = false := by simp; omega
              clear hAq hAL hq hD hH HDI HDI2
              have HA8 : Hid (Arr (wr.alloc (Obj.cells Z.toArray 33)) wr.heap.size 33 (u8v (fillAt (ShaMath.out S) 0))) := by
                rw [fillAt_zero, out_len, ← HZ.out]; exact Arr.new wr 33 Z rfl
              have HA2 : Hid (Arr (wr.alloc (Obj.cells Z.toArray 33)) w.heap.size 33 Z) := Arr.alloc HD.out.2.1 _
              have HAH : Hid (Arr (wr.alloc (Obj.cells Z.toArray 33)) gh 113 (u32s S.list)) := Arr.alloc HH.out _
              have HBB : Hid (Below w.heap.size w (wr.alloc (Obj.cells Z.toArray 33))) := HD.out.2.2.alloc HD.out.2.2.size _
              have hghr := Arr.lt HH.out
              go_wp2_with fail
              generalize (wr.alloc (Obj.cells Z.toArray 33)) = wz at *
              obtain ⟨go, hgo⟩ : ∃ g, g = wr.heap.size := ⟨_, rfl⟩
              have hgo1 : gh < go := by omega
              rw [← hgo] at HA8 ⊢
              clear hgo HD HH hghr
              go_loopw [9] (fun i wr => ∃ k : Nat, k ≤ 32 ∧ i = .int .i64 k ∧ Arr wr go 33 (u8v (fillAt (ShaMath.out S) k)) ∧ Arr wr w.heap.size 33 Z ∧ Arr wr gh 113 (u32s S.list) ∧ Below w.heap.size w wr) (fun i _ => 32 - (intOf i).toNat)
              case atStart => exact ⟨0, by omega, rfl, HA8.out, HA2.out, HAH.out, HBB.out⟩
              case round =>
                clear HA8 HA2 HAH HBB
                obtain ⟨k, hk, rfl, h4, h2, h3, hBw⟩ := hrel
                by_cases hlt : k < 32
                · have hol := out_len S
                  have hstep := fillAt_step (ShaMath.out S) k (by rw [hol]; exact hlt)
                  have hlen := fillAt_len (ShaMath.out S) k (by rw [hol]; exact hk)
                  rw [out_get S k hlt] at hstep
                  have hcell := h4.cell8 k (by rw [hlen, hol]; exact hlt)
                  have hfz := h4.frozen k
                  have hword := h3.cell32 (k / 4) (by rw [list8]; omega)
                  obtain ⟨t, ht1, ht2⟩ : ∃ t : Nat, (k : Int) % 4 = (t : Int) ∧ t = k % 4 := ⟨k % 4, by omega, rfl⟩
                  have ht1' : (k : Int).tmod 4 = (t : Int) := by rw [Int.tmod_eq_emod_of_nonneg (by omega)]; exact ht1
                  obtain ⟨u, hu1, hu2⟩ : ∃ u : Nat, (8 : Int) * (t : Int) = (u : Int) ∧ u = 8 * t := ⟨8 * t, by omega, rfl⟩
                  obtain ⟨v, hv1, hv2⟩ : ∃ v : Nat, (24 : Int) - (u : Int) = (v : Int) ∧ v = 8 * (3 - t) := ⟨8 * (3 - t), by omega, rfl⟩
                  rw [← ht2, ← hv2] at hstep
                  have hvl : v ≤ 24 := by omega
                  have hvI : (v : Int) ≤ 32 := by omega
                  generalize S.list[k / 4]?.getD 0 = Wd at *
                  generalize (fillAt (ShaMath.out S) k)[k]?.getD 0 = Dd at *
                  obtain ⟨b, hb1, hb2⟩ : ∃ b : Nat, (Wd : Int) / 2 ^ v % 256 = (b : Int) ∧ b = Wd / 2 ^ v % 256 := ⟨_, by simp, rfl⟩
                  rw [← hb2] at hstep
                  have HST : Hid _ := hstep
                  have H4 : Hid _ := h4
                  have H2 : Hid _ := h2
                  have H3 : Hid _ := h3
                  have hkq : k / 4 < 8 := by omega
                  clear hstep h4 h2 h3 hol hlen ht2 hu2 hv2 hb2
                  go_wp2
                  go_roundw
                  case rel => exact ⟨k + 1, by omega, by go_num, by rw [HST.out, ← u8v_set]; exact Arr.set H4.out _ _, Arr.set_other H2.out _ (by simp; omega) _, Arr.set_other H3.out _ (by simp; omega) _, hBw.setCell (by simp; omega) _⟩
                  case measure => simp [intOf]; omega
                · obtain rfl : k = 32 := by omega
                  rw [show fillAt (ShaMath.out S) 32 = ShaMath.out S from fillAt_end (ShaMath.out S), ← HDI3.out] at h4
                  have H4 : Hid _ := h4
                  have H2 : Hid _ := h2
                  have HDl : Hid ((u8v (ShaMath.digest M)).length = 32) := by show _ = _; rw [u8v_len, HDI3.out]; rfl
                  have HOd : Hid _ := u8v_one (ShaMath.digest M)
                  obtain ⟨R, hR⟩ : ∃ R, R = u8v (ShaMath.digest M) := ⟨_, rfl⟩
                  rw [← hR] at H4 HDl HOd
                  have HR : Hid (R = u8v (ShaMath.digest (nats (allB ps)))) := by show _ = _; rw [hR, HM.out]
                  clear h4 h2 hlt hR h3
                  go_wp2_with (first
                    | (refine wpList_load_mid rfl 33 (.tmp 8) rfl go 0 rfl R (.array 32 5) (range_of_arr H4.out) Tryz.underlying33 rfl (by rw [HDl.out]; exact size26) ?_)
                    | (refine wpList_store_arr rfl 33 (.tmp 2) (.tmp 70) rfl w.heap.size 33 Z R rfl rfl H2.out (by rw [HDl.out]; exact size26) (by rw [HZl.out, HDl.out]) HOd.out ?_))
                  (try simp only [Exit.inBlock, Exit.then])
                  refine ret_arr w.heap.size 33 R (.array 32 5) rfl rfl (Arr.row H2.out) Tryz.underlying33 rfl (by rw [HDl.out]; exact size26) rfl ⟨by rw [HR.out], below_setRow hBw (Nat.le_refl _) _⟩

end Go.Proofs.YteockpllnhjooaaGreatDoor

/-
  ShaKit, FnShaSched.
-/
import Derived.Test.YteockpllnhjooaaGreatDoorQC03
import Derived.Test.YteockpllnhjooaaGreatDoorQC04
namespace Go.Proofs.YteockpllnhjooaaGreatDoor
open Go.RowKit NumMath
set_option maxRecDepth 100000
set_option linter.unusedVariables false
set_option linter.unusedSimpArgs false

theorem zero47 : (Tryz.prog.info? 113).map (fun i => (i.zero, i.size)) = some (some (.agg (u32s (List.replicate 8 0)).toArray), 8) := by kernel_rfl
theorem zero58 : (Tryz.prog.info? 131).map (fun i => (i.zero, i.size)) = some (some (.agg (u32s (List.replicate 64 0)).toArray), 64) := by kernel_rfl
theorem zero49 : (Tryz.prog.info? 116).map (fun i => (i.zero, i.size)) = some (some (.agg (u8v (List.replicate 64 0)).toArray), 64) := by kernel_rfl
theorem zero26 : (Tryz.prog.info? 33).map (fun i => (i.zero, i.size)) = some (some (.agg (u8v (List.replicate 32 0)).toArray), 32) := by kernel_rfl

theorem size5 : (Tryz.prog.info? 5).map (fun x => x.size) = some 1 := by kernel_rfl
theorem size46 : (Tryz.prog.info? 112).map (fun x => x.size) = some 1 := by kernel_rfl
theorem size49 : (Tryz.prog.info? 116).map (·.size) = some 64 := by kernel_rfl
theorem size58 : (Tryz.prog.info? 131).map (·.size) = some 64 := by kernel_rfl
theorem size47 : (Tryz.prog.info? 113).map (·.size) = some 8 := by kernel_rfl
theorem size26 : (Tryz.prog.info? 33).map (·.size) = some 32 := by kernel_rfl
theorem or8 (x c : Nat) (hx : x < 16777216) (hc : c < 256) : bits .or .u32 ((x : Int) * 256) (c : Int) = ((x * 256 + c : Nat) : Int) := by
  rw [show (x : Int) * 256 = ((x * 256 : Nat) : Int) by simp, u32_or_nat _ _ (by omega) (by omega)]
  have := Nat.two_pow_add_eq_or_of_lt (i := 8) (by omega : c < 2 ^ 8) x
  rw [Nat.mul_comm x 256]
  exact congrArg _ this.symm

theorem wrap32 (n : Int) : IntKind.u32.wrap n = n % 4294967296 := by simp [IntKind.wrap, IntKind.bits, IntKind.signed]
theorem div_lt {x : Nat} (n : Nat) (h : x < 4294967296) : x / n < 4294967296 := Nat.lt_of_le_of_lt (Nat.div_le_self _ _) h
theorem small0_bits (x : Nat) (h : x < 4294967296) : bits .xor .u32 (bits .xor .u32 (ShaMath.rotr x 7 : Nat) (ShaMath.rotr x 18 : Nat)) ((x : Int) / 8) = ((ShaMath.small0 x : Nat) : Int) := by
  rw [u32_xor_nat _ _ (rotr_lt x 7 h) (rotr_lt x 18 h), show ((x : Int) / 8) = ((x / 2 ^ 3 : Nat) : Int) by simp, u32_xor_nat _ _ (xor_lt32 (rotr_lt x 7 h) (rotr_lt x 18 h)) (div_lt _ h)]
  rfl
theorem small1_bits (x : Nat) (h : x < 4294967296) : bits .xor .u32 (bits .xor .u32 (ShaMath.rotr x 17 : Nat) (ShaMath.rotr x 19 : Nat)) ((x : Int) / 1024) = ((ShaMath.small1 x : Nat) : Int) := by
  rw [u32_xor_nat _ _ (rotr_lt x 17 h) (rotr_lt x 19 h), show ((x : Int) / 1024) = ((x / 2 ^ 10 : Nat) : Int) by simp, u32_xor_nat _ _ (xor_lt32 (rotr_lt x 17 h) (rotr_lt x 19 h)) (div_lt _ h)]
  rfl
theorem sched_val (p16 p15 p7 p2 : Nat) (b15 : p15 < 4294967296) (b2 : p2 < 4294967296) :
    IntKind.u32.wrap (IntKind.u32.wrap (IntKind.u32.wrap ((p16 : Int) + p7) + bits .xor .u32 (bits .xor .u32 (ShaMath.rotr p15 7 : Nat) (ShaMath.rotr p15 18 : Nat)) ((p15 : Int) / 8)) + bits .xor .u32 (bits .xor .u32 (ShaMath.rotr p2 17 : Nat) (ShaMath.rotr p2 19 : Nat)) ((p2 : Int) / 1024))
      = (((p16 + ShaMath.small0 p15 + p7 + ShaMath.small1 p2) % 4294967296 : Nat) : Int) := by
  rw [small0_bits _ b15, small1_bits _ b2, wrap32, wrap32, wrap32]
  omega
theorem sched_val' (p16 p15 p7 p2 : Nat) (b15 : p15 < 4294967296) (b2 : p2 < 4294967296) :
    IntKind.u32.wrap (IntKind.u32.wrap (IntKind.u32.wrap ((p16 : Int) + bits .xor .u32 (bits .xor .u32 (ShaMath.rotr p15 7 : Nat) (ShaMath.rotr p15 18 : Nat)) ((p15 : Int) / 8)) + p7) + bits .xor .u32 (bits .xor .u32 (ShaMath.rotr p2 17 : Nat) (ShaMath.rotr p2 19 : Nat)) ((p2 : Int) / 1024))
      = (((p16 + ShaMath.small0 p15 + p7 + ShaMath.small1 p2) % 4294967296 : Nat) : Int) := by
  rw [small0_bits _ b15, small1_bits _ b2, wrap32, wrap32, wrap32]
  omega

end Go.Proofs.YteockpllnhjooaaGreatDoor
namespace Go.Proofs.YteockpllnhjooaaGreatDoor
open Go.RowKit NumMath
set_option maxRecDepth 100000
set_option linter.unusedVariables false
set_option linter.unusedSimpArgs false
attribute [-simp] Tryz.isAgg131 Tryz.sizeOf131 Tryz.zeroValue131 Tryz.isAgg116 Tryz.sizeOf116 Tryz.zeroValue116

set_option maxHeartbeats 4000000 in
theorem schedule_any (bs : List Nat) (w : World) (hl : bs.length = 64) (hb : ∀ c ∈ bs, c < 256) :
    Calls Tryz.prog 92 #[.agg (u8v bs).toArray] w fun e w' => e = .returned (.agg (u32s (ShaMath.sched bs)).toArray) ∧ Below w.heap.size w w' := by
  obtain ⟨z58, i58⟩ := zero_of_info zero58
  obtain ⟨Bv, hBv⟩ : ∃ Bv, Bv = u8v bs := ⟨_, rfl⟩
  obtain ⟨Z, hZ⟩ : ∃ Z, Z = u32s (List.replicate 64 0) := ⟨_, rfl⟩
  rw [← hZ] at z58
  rw [← hBv]
  have HB : Hid (Bv = u8v bs) := hBv
  have HI : Hid ((Tryz.prog.info? 116).map (·.size) = some Bv.length) := by show _ = _; rw [hBv, u8v_len, hl]; exact (zero_of_info zero49).2
  have HZ : Hid (Z = u32s (List.replicate 64 0)) := hZ
  have HL : Hid (bs.length = 64) := hl
  clear hBv hZ hl i58
  go_enter Tryz.func92, Tryz.ntmps92
  go_wp2_with (refine wpList_load_mid rfl 116 (.tmp 1) rfl w.heap.size 0 rfl Bv (.array 64 5) (range_of_arr (((Arr.new w 116 Bv rfl).alloc _).alloc _)) Tryz.underlying116 rfl HI.out ?_)
  have hA3 : Arr (((w.alloc (Obj.cells Bv.toArray 116)).alloc (Obj.cells Z.toArray 131)).alloc (Obj.cells Z.toArray 131)) (w.heap.size + 1 + 1) 131 Z := Arr.new _ 131 Z (by simp)
  have hA2 : Arr (((w.alloc (Obj.cells Bv.toArray 116)).alloc (Obj.cells Z.toArray 131)).alloc (Obj.cells Z.toArray 131)) (w.heap.size + 1) 131 Z := (Arr.new _ 131 Z (by simp)).alloc _
  have hBl : Below w.heap.size w (((w.alloc (Obj.cells Bv.toArray 116)).alloc (Obj.cells Z.toArray 131)).alloc (Obj.cells Z.toArray 131)) := (((Below.refl _ _).alloc (Nat.le_refl _) _).alloc (by simp) _).alloc (by simp; omega) _
  generalize (((w.alloc (Obj.cells Bv.toArray 116)).alloc (Obj.cells Z.toArray 131)).alloc (Obj.cells Z.toArray 131)) = w1 at *
  obtain ⟨g3, hg3⟩ : ∃ g, g = w.heap.size + 1 + 1 := ⟨_, rfl⟩
  obtain ⟨g2, hg2⟩ : ∃ g, g = w.heap.size + 1 := ⟨_, rfl⟩
  have G3 : Hid (g3 = w.heap.size + 1 + 1) := hg3
  have G2 : Hid (g2 = w.heap.size + 1) := hg2
  rw [← hg3] at hA3 ⊢
  rw [← hg2] at hA2 ⊢
  clear hg3 hg2
  go_loopw [10] (fun i wr => ∃ k : Nat, k ≤ 64 ∧ i = .int .i64 k ∧ Arr wr g3 131 (u32s (ShaMath.wordsAt bs k)) ∧ Arr wr g2 131 Z ∧ Below w.heap.size w wr) (fun i _ => 64 - (intOf i).toNat)
  case atStart => exact ⟨0, by omega, rfl, by rw [ShaMath.wordsAt_zero, ← HZ.out]; exact hA3, hA2, hBl⟩
  case round =>
    obtain ⟨k, hk, rfl, h3, h2, hBw⟩ := hrel
    clear hA3 hA2 hBl
    by_cases hlt : k < 64
    · obtain ⟨c, hc⟩ : ∃ c : Nat, c = bs[k]?.getD 0 := ⟨_, rfl⟩
      obtain ⟨x, hx⟩ : ∃ x : Nat, x = ShaMath.word (bs.take k) (k / 4) := ⟨_, rfl⟩
      have hlen := HL.out
      have hcx : Bv.toArray[k]? = some (.int .u8 (c : Int)) := by rw [HB.out, hc]; simp [u8v, hlen, hlt]
      have hxl : x < 16777216 := by rw [hx]; exact ShaMath.word_part bs k (by omega) hb
      have hcl : c < 256 := by rw [hc]; exact ShaMath.getD_lt hb (by decide) k
      have hq : k / 4 < 64 := by omega
      have hcell : wr.cell? ⟨g3, k / 4, none⟩ = some (.int .u32 (x : Int)) := by
        have := Arr.cell32 h3 (k / 4) (by rw [ShaMath.wordsAt_len]; exact hq)
        rw [this, ShaMath.wordsAt_get bs k _ hq, hx]
      have hfz := h3.frozen (k / 4)
      have HS : Hid _ := or8 x c hxl hcl
      have hix := run_index_row (P := Tryz.prog) (w := wr) 116 5 64 Bv k (.int .u8 (c : Int)) Tryz.underlying116 size5 (Tryz.isAgg5 wr) hlt (by simpa using hcx)
      clear hcx
      have H3 : Hid _ := h3
      have H2 : Hid _ := h2
      have HX : Hid (ShaMath.wordsAt bs (k + 1) = (ShaMath.wordsAt bs k).set (k / 4) (x * 256 + c)) := by rw [hc, hx]; exact ShaMath.wordsAt_step bs k (by omega) (by omega)
      clear h3 h2 hc hx hlen
      go_wp2
      have hg := G3.out
      have hg' := G2.out
      go_roundw
      case rel => exact ⟨k + 1, by omega, by go_num, by rw [HX.out, ← u32s_set, ← HS.out]; exact Arr.set H3.out _ _, Arr.set_other H2.out _ (by simp; omega) _, hBw.setCell (by simp; omega) _⟩
      case measure => simp [intOf]; omega
    · obtain rfl : k = 64 := by omega
      rw [ShaMath.wordsAt_end bs HL.out, ← ShaMath.schedAt_start] at h3
      have H3 : Hid _ := h3
      have H2 : Hid _ := h2
      clear h3 h2 hlt
      go_wp2
      rw [show ((64 : Nat) : Int) = 64 from rfl]
      go_loopw [6] (fun i wr => ∃ k : Nat, 16 ≤ k ∧ k ≤ 64 ∧ i = .int .i64 k ∧ Arr wr g3 131 (u32s (ShaMath.schedAt bs k)) ∧ Arr wr g2 131 Z ∧ Below w.heap.size w wr) (fun i _ => 64 - (intOf i).toNat)
      case atStart => exact ⟨16, by omega, by omega, rfl, H3.out, H2.out, hBw⟩
      case round =>
        clear H3 H2 hBw
        rename_i wq _
        obtain ⟨k, hk1, hk2, rfl, h3, h2, hBw⟩ := hrel
        by_cases hlt : k < 64
        · have hlen := ShaMath.schedAt_len bs k ⟨hk1, hk2⟩
          have hel := ShaMath.schedAt_lt bs k hb
          obtain ⟨k16, e16, f16⟩ : ∃ m : Nat, (k : Int) - 16 = m ∧ m = k - 16 := ⟨k - 16, by omega, rfl⟩
          obtain ⟨k15, e15, f15⟩ : ∃ m : Nat, (k : Int) - 15 = m ∧ m = k - 15 := ⟨k - 15, by omega, rfl⟩
          obtain ⟨k7, e7, f7⟩ : ∃ m : Nat, (k : Int) - 7 = m ∧ m = k - 7 := ⟨k - 7, by omega, rfl⟩
          obtain ⟨k2, e2, f2⟩ : ∃ m : Nat, (k : Int) - 2 = m ∧ m = k - 2 := ⟨k - 2, by omega, rfl⟩
          have c16 := Arr.cell32 h3 k16 (by omega)
          have c15 := Arr.cell32 h3 k15 (by omega)
          have c7 := Arr.cell32 h3 k7 (by omega)
          have c2 := Arr.cell32 h3 k2 (by omega)
          have ck := Arr.cell32 h3 k (by omega)
          have hfz := h3.frozen k
          have hstep := fun x => ShaMath.schedAt_step bs k ⟨hk1, hlt⟩ x
          rw [← f16, ← f15, ← f7, ← f2] at hstep
          have b16 := ShaMath.getD_lt hel (by decide) k16
          have b15 := ShaMath.getD_lt hel (by decide) k15
          have b7 := ShaMath.getD_lt hel (by decide) k7
          have b2 := ShaMath.getD_lt hel (by decide) k2
          generalize (ShaMath.schedAt bs k)[k16]?.getD 0 = p16 at *
          generalize (ShaMath.schedAt bs k)[k15]?.getD 0 = p15 at *
          generalize (ShaMath.schedAt bs k)[k7]?.getD 0 = p7 at *
          generalize (ShaMath.schedAt bs k)[k2]?.getD 0 = p2 at *
          generalize (ShaMath.schedAt bs k)[k]?.getD 0 = pk at *
          have HST : Hid _ := hstep
          have H3 : Hid _ := h3
          have H2 : Hid _ := h2
          have l16 : k16 < 64 := by omega
          have l15 : k15 < 64 := by omega
          have l7 : k7 < 64 := by omega
          have l2 : k2 < 64 := by omega
          clear hstep h3 h2 hlen hel f16 f15 f7 f2
          go_wp2_with fail
          go_region
          go_wp2_with fail
          have R1 : Hid (∀ w, _) := fun w => rot_any p15 7 w b15 (by decide) (by decide)
          have R2 : Hid (∀ w, _) := fun w => rot_any p15 18 w b15 (by decide) (by decide)
          have R3 : Hid (∀ w, _) := fun w => rot_any p2 17 w b2 (by decide) (by decide)
          have R4 : Hid (∀ w, _) := fun w => rot_any p2 19 w b2 (by decide) (by decide)
          have w16 : IntKind.i64.wrap (k16 : Int) = k16 := IntWalk.i64_in _ ⟨by omega, by omega⟩
          have m16 : (k16 : Int) < 64 := by omega
          have m7 : (k7 : Int) < 64 := by omega
          have mk : (k : Int) < 64 := by omega
          have w7 : IntKind.i64.wrap (k7 : Int) = k7 := IntWalk.i64_in _ ⟨by omega, by omega⟩
          refine wp_region_held_drew (S := fun w' => w'.cell? ⟨g3, k16, none⟩ = some (.int .u32 (p16 : Int)) ∧ w'.cell? ⟨g3, k7, none⟩ = some (.int .u32 (p7 : Int))) rfl ⟨c16, c7⟩ (fun hS => ?_)
          clear c16 c15 c7 c2
          refine wpAnyH_take (i := 0) (v := ?_) rfl (by kernel_rfl) (by kernel_rfl) (by kernel_rfl) (fun _ _ _ h => h) (Or.inl ⟨by rfl, ?_⟩) hS ?_
          rotate_left 1
          · intro w hSw; (try dsimp only at hSw); go_simp <;> with_reducible rfl
          try simp only [List.getElem_toArray, List.getElem_cons_zero, List.getElem_cons_succ, Act.put, List.setIfInBounds_toArray, List.set_cons_zero, List.set_cons_succ]
          refine wpAnyH_take (i := 1) (v := ?_) rfl (by kernel_rfl) (by kernel_rfl) (by kernel_rfl) (fun _ _ _ h => h) (Or.inl ⟨by rfl, ?_⟩) hS ?_
          rotate_left 1
          · intro w hSw; (try dsimp only at hSw); go_simp <;> with_reducible rfl
          try simp only [List.getElem_toArray, List.getElem_cons_zero, List.getElem_cons_succ, Act.put, List.setIfInBounds_toArray, List.set_cons_zero, List.set_cons_succ]
          refine wpAnyH_take (i := 2) (v := ?_) rfl (by kernel_rfl) (by kernel_rfl) (by kernel_rfl) (fun _ _ _ h => h) (Or.inl ⟨by rfl, ?_⟩) hS ?_
          rotate_left 1
          · intro w hSw; (try dsimp only at hSw); go_simp <;> with_reducible rfl
          try simp only [List.getElem_toArray, List.getElem_cons_zero, List.getElem_cons_succ, Act.put, List.setIfInBounds_toArray, List.set_cons_zero, List.set_cons_succ]
          refine wpAnyH_take (i := 3) (v := ?_) rfl (by kernel_rfl) (by kernel_rfl) (by kernel_rfl) (fun _ _ _ h => h) (Or.inl ⟨by rfl, ?_⟩) hS ?_
          rotate_left 1
          · intro w hSw; (try dsimp only at hSw); go_simp <;> with_reducible rfl
          try simp only [List.getElem_toArray, List.getElem_cons_zero, List.getElem_cons_succ, Act.put, List.setIfInBounds_toArray, List.set_cons_zero, List.set_cons_succ]
          refine wpAnyH_take (i := 4) (v := ?_) rfl (by kernel_rfl) (by kernel_rfl) (by kernel_rfl) (fun _ _ _ h => h) (Or.inl ⟨by rfl, ?_⟩) hS ?_
          rotate_left 1
          · intro w hSw; (try dsimp only at hSw); go_simp <;> with_reducible rfl
          try simp only [List.getElem_toArray, List.getElem_cons_zero, List.getElem_cons_succ, Act.put, List.setIfInBounds_toArray, List.set_cons_zero, List.set_cons_succ]
          refine wpAnyH_take (i := 5) (v := ?_) rfl (by kernel_rfl) (by kernel_rfl) (by kernel_rfl) (fun _ _ _ h => h) (Or.inl ⟨by rfl, ?_⟩) hS ?_
          rotate_left 1
          · intro w hSw; (try dsimp only at hSw); go_simp <;> with_reducible rfl
          try simp only [List.getElem_toArray, List.getElem_cons_zero, List.getElem_cons_succ, Act.put, List.setIfInBounds_toArray, List.set_cons_zero, List.set_cons_succ]
          refine wpAnyH_take (i := 6) (v := ?_) rfl (by kernel_rfl) (by kernel_rfl) (by kernel_rfl) (fun _ _ _ h => h) (Or.inl ⟨by rfl, ?_⟩) hS ?_
          rotate_left 1
          · intro w hSw; (try dsimp only at hSw); go_simp <;> with_reducible rfl
          try simp only [List.getElem_toArray, List.getElem_cons_zero, List.getElem_cons_succ, Act.put, List.setIfInBounds_toArray, List.set_cons_zero, List.set_cons_succ]
          refine wpAnyH_take (i := 7) (v := ?_) rfl (by kernel_rfl) (by kernel_rfl) (by kernel_rfl) (fun _ _ _ h => h) (Or.inl ⟨by rfl, ?_⟩) hS ?_
          rotate_left 1
          · intro w hSw; (try dsimp only at hSw); go_simp <;> with_reducible rfl
          try simp only [List.getElem_toArray, List.getElem_cons_zero, List.getElem_cons_succ, Act.put, List.setIfInBounds_toArray, List.set_cons_zero, List.set_cons_succ]
          refine wpAnyH_take (i := 8) (v := ?_) rfl (by kernel_rfl) (by kernel_rfl) (by kernel_rfl) (fun _ _ _ h => h) (Or.inl ⟨by rfl, ?_⟩) hS ?_
          rotate_left 1
          · intro w hSw; (try dsimp only at hSw); go_simp <;> with_reducible rfl
          try simp only [List.getElem_toArray, List.getElem_cons_zero, List.getElem_cons_succ, Act.put, List.setIfInBounds_toArray, List.set_cons_zero, List.set_cons_succ]
          refine wpAnyH_take (i := 9) (v := ?_) rfl (by kernel_rfl) (by kernel_rfl) (by kernel_rfl) (fun _ _ _ h => h) (Or.inl ⟨by rfl, ?_⟩) hS ?_
          rotate_left 1
          · intro w hSw; (try dsimp only at hSw); go_simp <;> with_reducible rfl
          try simp only [List.getElem_toArray, List.getElem_cons_zero, List.getElem_cons_succ, Act.put, List.setIfInBounds_toArray, List.set_cons_zero, List.set_cons_succ]
          refine wpAnyH_take (i := 10) (v := ?_) rfl (by kernel_rfl) (by kernel_rfl) (by kernel_rfl) (fun _ _ _ h => h) (Or.inl ⟨by rfl, ?_⟩) hS ?_
          rotate_left 1
          · intro w hSw; (try dsimp only at hSw); go_simp <;> with_reducible rfl
          try simp only [List.getElem_toArray, List.getElem_cons_zero, List.getElem_cons_succ, Act.put, List.setIfInBounds_toArray, List.set_cons_zero, List.set_cons_succ]
          refine wpAnyH_take (i := 12) (v := ?_) rfl (by kernel_rfl) (by kernel_rfl) (by kernel_rfl) (fun _ _ _ h => h) (Or.inl ⟨by rfl, ?_⟩) hS ?_
          rotate_left 1
          · intro w hSw; (try dsimp only at hSw); go_simp <;> with_reducible rfl
          try simp only [List.getElem_toArray, List.getElem_cons_zero, List.getElem_cons_succ, Act.put, List.setIfInBounds_toArray, List.set_cons_zero, List.set_cons_succ]
          refine wpAnyH_take (i := 15) (v := ?_) rfl (by kernel_rfl) (by kernel_rfl) (by kernel_rfl) (fun _ _ _ h => h) (Or.inl ⟨by rfl, ?_⟩) hS ?_
          rotate_left 1
          · intro w hSw; (try dsimp only at hSw); go_simp <;> with_reducible rfl
          try simp only [List.getElem_toArray, List.getElem_cons_zero, List.getElem_cons_succ, Act.put, List.setIfInBounds_toArray, List.set_cons_zero, List.set_cons_succ]
          refine wpAnyH_take (i := 16) (v := ?_) rfl (by kernel_rfl) (by kernel_rfl) (by kernel_rfl) (fun _ _ _ h => h) (Or.inl ⟨by rfl, ?_⟩) hS ?_
          rotate_left 1
          · intro w hSw; (try dsimp only at hSw); go_simp <;> with_reducible rfl
          try simp only [List.getElem_toArray, List.getElem_cons_zero, List.getElem_cons_succ, Act.put, List.setIfInBounds_toArray, List.set_cons_zero, List.set_cons_succ]
          refine wpAnyH_take (i := 19) (v := ?_) rfl (by kernel_rfl) (by kernel_rfl) (by kernel_rfl) (fun _ _ _ h => h) (Or.inl ⟨by rfl, ?_⟩) hS ?_
          rotate_left 1
          · intro w hSw; (try dsimp only at hSw); go_simp <;> with_reducible rfl
          try simp only [List.getElem_toArray, List.getElem_cons_zero, List.getElem_cons_succ, Act.put, List.setIfInBounds_toArray, List.set_cons_zero, List.set_cons_succ]
          refine wpAnyH_take (i := 21) (v := ?_) rfl (by kernel_rfl) (by kernel_rfl) (by kernel_rfl) (fun _ _ _ h => h) (Or.inl ⟨by rfl, ?_⟩) hS ?_
          rotate_left 1
          · intro w hSw; (try dsimp only at hSw); go_simp <;> with_reducible rfl
          try simp only [List.getElem_toArray, List.getElem_cons_zero, List.getElem_cons_succ, Act.put, List.setIfInBounds_toArray, List.set_cons_zero, List.set_cons_succ]
          refine wpAnyH_take (i := 24) (v := ?_) rfl (by kernel_rfl) (by kernel_rfl) (by kernel_rfl) (fun _ _ _ h => h) (Or.inl ⟨by rfl, ?_⟩) hS ?_
          rotate_left 1
          · intro w hSw; (try dsimp only at hSw); go_simp <;> with_reducible rfl
          try simp only [List.getElem_toArray, List.getElem_cons_zero, List.getElem_cons_succ, Act.put, List.setIfInBounds_toArray, List.set_cons_zero, List.set_cons_succ]
          refine wpAnyH_take (i := 25) (v := ?_) rfl (by kernel_rfl) (by kernel_rfl) (by kernel_rfl) (fun _ _ _ h => h) (Or.inl ⟨by rfl, ?_⟩) hS ?_
          rotate_left 1
          · intro w hSw; (try dsimp only at hSw); go_simp <;> with_reducible rfl
          try simp only [List.getElem_toArray, List.getElem_cons_zero, List.getElem_cons_succ, Act.put, List.setIfInBounds_toArray, List.set_cons_zero, List.set_cons_succ]
          refine wpAnyH_ready (rs := [11]) (by kernel_rfl) (by simp) ?_
          refine AllReadyH.cons rfl (fun K hK => ?_) AllReadyH.nil
          go_simp
          refine Calls.mono (R1.out _) ?_
          rintro e wz ⟨rfl, rfl⟩
          refine hK.out _ _ hS (fun hS => ?_)
          clear hK K
          try simp only [List.getElem_toArray, List.getElem_cons_zero, List.getElem_cons_succ, Act.put, List.setIfInBounds_toArray, List.set_cons_zero, List.set_cons_succ]
          refine wpAnyH_ready (rs := [13]) (by kernel_rfl) (by simp) ?_
          refine AllReadyH.cons rfl (fun K hK => ?_) AllReadyH.nil
          go_simp
          refine Calls.mono (R2.out _) ?_
          rintro e wz ⟨rfl, rfl⟩
          refine hK.out _ _ hS (fun hS => ?_)
          clear hK K
          try simp only [List.getElem_toArray, List.getElem_cons_zero, List.getElem_cons_succ, Act.put, List.setIfInBounds_toArray, List.set_cons_zero, List.set_cons_succ]
          refine wpAnyH_take (i := 14) (v := ?_) rfl (by kernel_rfl) (by kernel_rfl) (by kernel_rfl) (fun _ _ _ h => h) (Or.inl ⟨by rfl, ?_⟩) hS ?_
          rotate_left 1
          · intro w hSw; (try dsimp only at hSw); go_simp <;> with_reducible rfl
          try simp only [List.getElem_toArray, List.getElem_cons_zero, List.getElem_cons_succ, Act.put, List.setIfInBounds_toArray, List.set_cons_zero, List.set_cons_succ]
          refine wpAnyH_take (i := 17) (v := ?_) rfl (by kernel_rfl) (by kernel_rfl) (by kernel_rfl) (fun _ _ _ h => h) (Or.inl ⟨by rfl, ?_⟩) hS ?_
          rotate_left 1
          · intro w hSw; (try dsimp only at hSw); go_simp <;> with_reducible rfl
          try simp only [List.getElem_toArray, List.getElem_cons_zero, List.getElem_cons_succ, Act.put, List.setIfInBounds_toArray, List.set_cons_zero, List.set_cons_succ]
          refine wpAnyH_take (i := 18) (v := ?_) rfl (by kernel_rfl) (by kernel_rfl) (by kernel_rfl) (fun _ _ _ h => h) (Or.inl ⟨by rfl, ?_⟩) hS ?_
          rotate_left 1
          · intro w hSw; (try dsimp only at hSw); go_simp <;> with_reducible rfl
          try simp only [List.getElem_toArray, List.getElem_cons_zero, List.getElem_cons_succ, Act.put, List.setIfInBounds_toArray, List.set_cons_zero, List.set_cons_succ]
          refine wpAnyH_ready (rs := [20]) (by kernel_rfl) (by simp) ?_
          refine AllReadyH.cons rfl (fun K hK => ?_) AllReadyH.nil
          go_simp
          refine Calls.mono (R3.out _) ?_
          rintro e wz ⟨rfl, rfl⟩
          refine hK.out _ _ hS (fun hS => ?_)
          clear hK K
          try simp only [List.getElem_toArray, List.getElem_cons_zero, List.getElem_cons_succ, Act.put, List.setIfInBounds_toArray, List.set_cons_zero, List.set_cons_succ]
          refine wpAnyH_ready (rs := [22]) (by kernel_rfl) (by simp) ?_
          refine AllReadyH.cons rfl (fun K hK => ?_) AllReadyH.nil
          go_simp
          refine Calls.mono (R4.out _) ?_
          rintro e wz ⟨rfl, rfl⟩
          refine hK.out _ _ hS (fun hS => ?_)
          clear hK K
          try simp only [List.getElem_toArray, List.getElem_cons_zero, List.getElem_cons_succ, Act.put, List.setIfInBounds_toArray, List.set_cons_zero, List.set_cons_succ]
          refine wpAnyH_take (i := 23) (v := ?_) rfl (by kernel_rfl) (by kernel_rfl) (by kernel_rfl) (fun _ _ _ h => h) (Or.inl ⟨by rfl, ?_⟩) hS ?_
          rotate_left 1
          · intro w hSw; (try dsimp only at hSw); go_simp <;> with_reducible rfl
          try simp only [List.getElem_toArray, List.getElem_cons_zero, List.getElem_cons_succ, Act.put, List.setIfInBounds_toArray, List.set_cons_zero, List.set_cons_succ]
          refine wpAnyH_take (i := 26) (v := ?_) rfl (by kernel_rfl) (by kernel_rfl) (by kernel_rfl) (fun _ _ _ h => h) (Or.inl ⟨by rfl, ?_⟩) hS ?_
          rotate_left 1
          · intro w hSw; (try dsimp only at hSw); go_simp <;> with_reducible rfl
          try simp only [List.getElem_toArray, List.getElem_cons_zero, List.getElem_cons_succ, Act.put, List.setIfInBounds_toArray, List.set_cons_zero, List.set_cons_succ]
          refine wpAnyH_take (i := 27) (v := ?_) rfl (by kernel_rfl) (by kernel_rfl) (by kernel_rfl) (fun _ _ _ h => h) (Or.inl ⟨by rfl, ?_⟩) hS ?_
          rotate_left 1
          · intro w hSw; (try dsimp only at hSw); go_simp <;> with_reducible rfl
          try simp only [List.getElem_toArray, List.getElem_cons_zero, List.getElem_cons_succ, Act.put, List.setIfInBounds_toArray, List.set_cons_zero, List.set_cons_succ]
          refine wpAnyH_take (i := 28) (v := ?_) rfl (by kernel_rfl) (by kernel_rfl) (by kernel_rfl) (fun _ _ _ h => h) (Or.inl ⟨by rfl, ?_⟩) hS ?_
          rotate_left 1
          · intro w hSw; (try dsimp only at hSw); go_simp <;> with_reducible rfl
          try simp only [List.getElem_toArray, List.getElem_cons_zero, List.getElem_cons_succ, Act.put, List.setIfInBounds_toArray, List.set_cons_zero, List.set_cons_succ]
          refine wpAnyH_ready (rs := [29]) (by kernel_rfl) (by simp) ?_
          refine AllReadyH.cons rfl (fun K hK => ?_) AllReadyH.nil
          have hne16 : k ≠ k16 := by omega
          have hne7 : k ≠ k7 := by omega
          have ck' : wr.drew.drew.cell? ⟨g3, k, none⟩ = some (.int .u32 (pk : Int)) := ck
          have hfz' : wr.drew.drew.frozen? ⟨g3, k, none⟩ = false := hfz
          go_simp
          rw [sched_val p16 p15 p7 p2 b15 b2]
          have hset := fun (x : Nat) => Arr.set (Arr.drew (Arr.drew H3.out)) k (.int .u32 (x : Int))
          have hst2 := HST.out _ rfl
          generalize (p16 + ShaMath.small0 p15 + p7 + ShaMath.small1 p2) % 4294967296 = X at *
          have HSX := hset X
          rw [u32s_set, ← hst2] at HSX
          have HSX' : Hid _ := HSX
          clear hset hst2 HSX HST R1 R2 R3 R4
          refine hK.out _ _ ⟨?_, ?_⟩ (fun hS => ?_)
          · show (wr.setCell _ _).cell? _ = _
            rw [World.cell?_setCell_other _ _ _ _ (by intro e; injection e; omega)]; exact hS.1
          · show (wr.setCell _ _).cell? _ = _
            rw [World.cell?_setCell_other _ _ _ _ (by intro e; injection e; omega)]; exact hS.2
          clear hK K
          try simp only [List.getElem_toArray, List.getElem_cons_zero, List.getElem_cons_succ, Act.put, List.setIfInBounds_toArray, List.set_cons_zero, List.set_cons_succ]
          refine wpAnyH_done (by kernel_rfl) ?_ _
          clear hS ck' hfz'
          go_wp2
          go_roundw
          case rel => exact ⟨k + 1, by omega, by omega, by go_num, HSX'.out, Arr.set_other (Arr.drew (Arr.drew H2.out)) _ (by simp; have := G3.out; have := G2.out; omega) _, (hBw.drew.drew).setCell (by simp; have := G3.out; omega) _⟩
          case measure => simp [intOf]; omega
        · obtain rfl : k = 64 := by omega
          rw [ShaMath.schedAt_end] at h3
          have H3 : Hid _ := h3
          have H2 : Hid _ := h2
          clear h3 h2 hlt
          have HS64 : Hid ((u32s (ShaMath.sched bs)).length = 64) := by show _ = _; rw [u32s_len, ShaMath.sched_len]
          have HZ64 : Hid (Z.length = 64) := by show _ = _; rw [HZ.out, u32s_len]; simp
          have HO : Hid _ := u32s_one (ShaMath.sched bs)
          obtain ⟨R, hR⟩ : ∃ R, R = u32s (ShaMath.sched bs) := ⟨_, rfl⟩
          rw [← hR] at H3 HS64 HO
          have HR : Hid (R = u32s (ShaMath.sched bs)) := hR
          clear hR
          go_wp2_with (first
            | (refine wpList_load_mid rfl 131 (.tmp 3) rfl g3 0 rfl R (.array 64 112) (range_of_arr H3.out) Tryz.underlying131 rfl (by rw [HS64.out]; exact size58) ?_)
            | (refine wpList_store_arr rfl 131 (.tmp 2) (.tmp 67) rfl g2 131 Z R rfl rfl H2.out (by rw [HS64.out]; exact size58) (by rw [HZ64.out, HS64.out]) HO.out ?_))
          (try simp only [Exit.inBlock, Exit.then])
          refine ret_arr g2 131 R (.array 64 112) rfl rfl (Arr.row H2.out) Tryz.underlying131 rfl (by rw [HS64.out]; exact size58) rfl ⟨by rw [HR.out], below_setRow hBw (by have := G2.out; omega) _⟩

end Go.Proofs.YteockpllnhjooaaGreatDoor

/-
  Walk of sha.Text: two digits for each byte.
-/
import Derived.Test.YtfgpoclflikhmaaDoorTextKit
import Derived.Test.YtfgpoclflikhmaaDoorFnShaSum
namespace Go.Proofs.YtfgpoclflikhmaaDoor
open Go.RowKit NumMath
set_option maxRecDepth 100000
set_option linter.unusedVariables false
set_option linter.unusedSimpArgs false
attribute [-simp] Tryd.isAgg49 Tryd.zeroValue49 Tryd.isAgg26 Tryd.zeroValue26

theorem and15_8 (c : Nat) (h : c < 256) : bits .and .u8 (c : Int) 15 = ((c % 16 : Nat) : Int) := by
  have := u8_and_nat c 15 h (by decide)
  rw [show c &&& 15 = c % 16 from Nat.and_two_pow_sub_one_eq_mod c 4] at this
  exact this

set_option maxHeartbeats 800000 in
theorem text_any (xs : List Nat) (w : World) (hl : xs.length = 32) (hb : ∀ c ∈ xs, c < 256) :
    Calls Tryd.prog 14 #[.agg (u8v xs).toArray] w fun e w' => e = .returned (.string (strN (ShaMath.hexL xs))) ∧ Below w.heap.size w w' := by
  obtain ⟨z49, i49⟩ := zero_of_info zero49
  obtain ⟨Bv, hBv⟩ : ∃ Bv, Bv = u8v xs := ⟨_, rfl⟩
  obtain ⟨Z, hZ⟩ : ∃ Z, Z = u8v (List.replicate 64 0) := ⟨_, rfl⟩
  rw [← hZ] at z49
  rw [← hBv]
  have HB : Hid (Bv = u8v xs) := hBv
  have HI : Hid ((Tryd.prog.info? 26).map (·.size) = some Bv.length) := by show _ = _; rw [hBv, u8v_len, hl]; exact size26
  have HZ : Hid (Z = u8v (List.replicate 64 0)) := hZ
  have HL : Hid (xs.length = 32) := hl
  have HHL : Hid ((ShaMath.hexL xs).length = 64) := by show _ = _; rw [ShaMath.hexL_len, hl]
  clear hBv hZ hl i49
  have HA : Hid (Arr ((w.alloc (Obj.cells Bv.toArray 26)).alloc (Obj.cells Z.toArray 49)) (w.heap.size + 1) 49 (u8v (fillAt (ShaMath.hexL xs) (2 * 0)))) := by
    rw [Nat.mul_zero, fillAt_zero, HHL.out, ← HZ.out]; exact Arr.new _ 49 Z (by simp)
  have HBl : Hid (Below w.heap.size w ((w.alloc (Obj.cells Bv.toArray 26)).alloc (Obj.cells Z.toArray 49))) := ((Below.refl _ _).alloc (Nat.le_refl _) _).alloc (by simp) _
  go_enter Tryd.func14, Tryd.ntmps14
  go_wp2_with (refine wpList_load_mid rfl 26 (.tmp 1) rfl w.heap.size 0 rfl Bv (.array 32 5) (range_of_arr ((Arr.new w 26 Bv rfl).alloc _)) Tryd.underlying26 rfl HI.out ?_)
  generalize ((w.alloc (Obj.cells Bv.toArray 26)).alloc (Obj.cells Z.toArray 49)) = w1 at *
  obtain ⟨g3, hg3⟩ : ∃ g, g = w.heap.size + 1 := ⟨_, rfl⟩
  have hg3' : w.heap.size ≤ g3 := by omega
  rw [← hg3] at HA ⊢
  clear hg3
  go_loopw [7] (fun i wr => ∃ k : Nat, k ≤ 32 ∧ i = .int .i64 k ∧ Arr wr g3 49 (u8v (fillAt (ShaMath.hexL xs) (2 * k))) ∧ Below w.heap.size w wr) (fun i _ => 32 - (intOf i).toNat)
  case atStart => exact ⟨0, by omega, rfl, HA.out, HBl.out⟩
  case round =>
    clear HA HBl
    obtain ⟨k, hk, rfl, hA, hBw⟩ := hrel
    by_cases hlt : k < 32
    · have hlen := HL.out
      have hhl := HHL.out
      obtain ⟨c, hc⟩ : ∃ c : Nat, c = xs[k]?.getD 0 := ⟨_, rfl⟩
      have hcl : c < 256 := by rw [hc]; exact ShaMath.getD_lt hb (by decide) k
      have hix := run_index_row (P := Tryd.prog) (w := wr) 26 5 32 Bv k (.int .u8 (c : Int)) Tryd.underlying26 size5 (Tryd.isAgg5 wr) hlt (by rw [HB.out, hc]; simp [u8v, hlen, hlt])
      obtain ⟨q1, hq1, gq1⟩ : ∃ q : Nat, (c : Int) / 16 = (q : Int) ∧ q = c / 16 := ⟨c / 16, by omega, rfl⟩
      obtain ⟨q2, hq2, gq2⟩ : ∃ q : Nat, bits .and .u8 (c : Int) 15 = (q : Int) ∧ q = c % 16 := ⟨c % 16, and15_8 c hcl, rfl⟩
      have s1 := fillAt_step (ShaMath.hexL xs) (2 * k) (by omega)
      have s2 := fillAt_step (ShaMath.hexL xs) (2 * k + 1) (by omega)
      rw [ShaMath.hexL_even xs k (by omega), ← hc, ← gq1] at s1
      rw [ShaMath.hexL_odd xs k (by omega), ← hc, ← gq2] at s2
      obtain ⟨k2, hk2, gk2⟩ : ∃ q : Nat, (2 : Int) * (k : Int) = (q : Int) ∧ q = 2 * k := ⟨2 * k, by omega, rfl⟩
      rw [← gk2] at s1 s2 hA
      have l0 := fillAt_len (ShaMath.hexL xs) k2 (by omega)
      have l1 := fillAt_len (ShaMath.hexL xs) (k2 + 1) (by omega)
      have d1 := dig_get q1 (by omega)
      have d2 := dig_get q2 (by omega)
      have d1l := ShaMath.hexd_lt q1 (by omega)
      have d2l := ShaMath.hexd_lt q2 (by omega)
      have HE : Hid (fillAt (ShaMath.hexL xs) (2 * (k + 1)) = fillAt (ShaMath.hexL xs) (k2 + 1 + 1)) := by show _ = _; rw [gk2, show 2 * (k + 1) = 2 * k + 1 + 1 by omega]
      generalize ShaMath.hexd q1 = D1 at *
      generalize ShaMath.hexd q2 = D2 at *
      have hc1 := hA.cell8 k2 (by omega)
      have hf1 := hA.frozen k2
      have hA1 : Arr (wr.setCell ⟨g3, k2, none⟩ (.int .u8 (D1 : Int))) g3 49 (u8v (fillAt (ShaMath.hexL xs) (k2 + 1))) := by rw [s1, ← u8v_set]; exact hA.set _ _
      have hc2 := hA1.cell8 (k2 + 1) (by omega)
      have hf2 := hA1.frozen (k2 + 1)
      have HA1 : Hid _ := hA1
      have HS2 : Hid _ := s2
      have hk2l : k2 < 64 := by omega
      have hk2m : k2 + 1 < 64 := by omega
      have hk2I : (k2 : Int) + 1 < 64 := by omega
      clear hA hA1 s1 s2 l0 l1 hlen hhl hc gq1 gq2 gk2
      go_wp2_with (first
        | (refine wpList_index_str rfl _ (.tmp 14) rfl digitsL .u8 q1 D1 (by show Value.string _ = _; rw [dig_str]) rfl d1 d1l ?_; simp only [Act.put, List.setIfInBounds_toArray, List.set_cons_zero, List.set_cons_succ])
        | (refine wpList_index_str rfl _ (.tmp 21) rfl digitsL .u8 q2 D2 (by show Value.string _ = _; rw [dig_str]) rfl d2 d2l ?_; simp only [Act.put, List.setIfInBounds_toArray, List.set_cons_zero, List.set_cons_succ]))
      go_roundw
      case rel => exact ⟨k + 1, by omega, by go_num, by rw [HE.out, HS2.out, ← u8v_set]; exact Arr.set HA1.out _ _, (hBw.setCell (by simpa using hg3') _).setCell (by simpa using hg3') _⟩
      case measure => simp [intOf]; omega
    · obtain rfl : k = 32 := by omega
      have e : fillAt (ShaMath.hexL xs) (2 * 32) = ShaMath.hexL xs := by
        have := fillAt_end (ShaMath.hexL xs)
        rwa [HHL.out] at this
      rw [e] at hA
      have hs := row_string (cap := 64) (arr_row hA)
      rw [ints_len, HHL.out] at hs
      have HS : Hid _ := hs
      rw [show strOfNums (ints (ShaMath.hexL xs)) = strN (ShaMath.hexL xs) from rfl] at hs
      clear hA hlt HS e
      go_wp2
      go_ret
      exact ⟨rfl, hBw⟩

end Go.Proofs.YtfgpoclflikhmaaDoor

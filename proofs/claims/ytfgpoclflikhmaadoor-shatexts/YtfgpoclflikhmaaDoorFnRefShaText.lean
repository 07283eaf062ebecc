/-
  Walk of newsreelref1.IdText.
-/
import Derived.Test.YtfgpoclflikhmaaDoorTextKit2
import Derived.Test.YtfgpoclflikhmaaDoorFnShaSum
namespace Go.Proofs.YtfgpoclflikhmaaDoor
open Go.RowKit NumMath
set_option maxRecDepth 100000
set_option linter.unusedVariables false
set_option linter.unusedSimpArgs false
attribute [-simp] Tryd.isAgg49 Tryd.zeroValue49 Tryd.isAgg26 Tryd.zeroValue26

theorem and15_8' (c : Nat) (h : c < 256) : bits .and .u8 (c : Int) 15 = ((c % 16 : Nat) : Int) := by
  have := u8_and_nat c 15 h (by decide)
  rw [show c &&& 15 = c % 16 from Nat.and_two_pow_sub_one_eq_mod c 4] at this
  exact this

theorem hexL_snoc : ∀ (l : List Nat) (c : Nat), ShaMath.hexL (l ++ [c]) = ShaMath.hexL l ++ [ShaMath.hexd (c / 16), ShaMath.hexd (c % 16)]
  | [], c => rfl
  | x :: l, c => by simp [ShaMath.hexL, hexL_snoc l c]

set_option maxHeartbeats 1000000 in
theorem idText_any (xs : List Nat) (w : World) (hl : xs.length = 32) (hb : ∀ c ∈ xs, c < 256) :
    Calls Tryd.prog 15 #[.agg (u8v xs).toArray] w fun e w' => e = .returned (.string (strN (ShaMath.hexL xs))) ∧ Below w.heap.size w w' := by
  have HA : Hid (Arr (w.alloc (Obj.cells (u8v xs).toArray 26)) w.heap.size 26 (u8v xs)) := Arr.new w 26 _ rfl
  have HBl : Hid (Below w.heap.size w (w.alloc (Obj.cells (u8v xs).toArray 26))) := (Below.refl _ _).alloc (Nat.le_refl _) _
  have HL : Hid _ := hl
  go_enter Tryd.func15, Tryd.ntmps15
  go_wp2_with fail
  generalize (w.alloc (Obj.cells (u8v xs).toArray 26)) = w1 at *
  generalize (u8v xs).toArray = X
  clear hl
  go_loopw [3, 4] (fun s i wr => ∃ (k n : Nat), k ≤ 32 ∧ i = .int .i64 k ∧ s = .string (strN (ShaMath.hexL (xs.take k))) ∧ wr = w1.drewN n) (fun _ i _ => 32 - (intOf i).toNat)
  case atStart => exact ⟨0, 0, by omega, rfl, rfl, rfl⟩
  case round =>
    obtain ⟨k, n, hk, rfl, rfl, rfl⟩ := hrel
    by_cases hlt : k < 32
    · have hlen := HL.out
      obtain ⟨c, hc⟩ : ∃ c : Nat, c = xs[k]?.getD 0 := ⟨_, rfl⟩
      have hcl : c < 256 := by rw [hc]; exact ShaMath.getD_lt hb (by decide) k
      have hcell := Arr.cell8 HA.out k (by omega)
      rw [← hc] at hcell
      obtain ⟨q1, hq1, gq1⟩ : ∃ q : Nat, (c : Int) / 16 = (q : Int) ∧ q = c / 16 := ⟨c / 16, by omega, rfl⟩
      obtain ⟨q2, hq2, gq2⟩ : ∃ q : Nat, bits .and .u8 (c : Int) 15 = (q : Int) ∧ q = c % 16 := ⟨c % 16, and15_8' c hcl, rfl⟩
      have hq1l : q1 < 16 := by omega
      have hq2l : q2 < 16 := by omega
      have hkI : (k : Int) < 32 := by omega
      have hw1 : IntKind.u8.wrap ((q1 : Int) + 1) = (q1 : Int) + 1 := by simp [IntKind.wrap, IntKind.bits, IntKind.signed]; omega
      have hw2 : IntKind.u8.wrap ((q2 : Int) + 1) = (q2 : Int) + 1 := by simp [IntKind.wrap, IntKind.bits, IntKind.signed]; omega
      have GQ : Hid (q1 = c / 16 ∧ q2 = c % 16 ∧ c = xs[k]?.getD 0) := ⟨gq1, gq2, hc⟩
      clear hc gq1 gq2 hlen
      go_wp2_with fail
      refine wp_region_quiet_lit (by kernel_rfl) (by kernel_rfl) ?_
      have HLN : Hid ((ShaMath.hexL (xs.take k)).length = 2 * k) := by show _ = _; rw [ShaMath.hexL_len, List.length_take, HL.out]; omega
      iterate 10 quiet_step (fail)
      refine wpQuiet_step (fun K hK => ?_)
      rw [if_pos (by rfl)]
      refine ⟨_, fun w _ => quiet_slice _ (.tmp 13) (.tmp 18) rfl digitsL (by show Value.string _ = _; rw [dig_str]) .u8 .u8 q1 (q1 + 1) rfl rfl (by omega) (by show q1 + 1 ≤ 16; omega), hK _ ?_⟩
      simp only [Act.put, List.setIfInBounds_toArray, List.set_cons_zero, List.set_cons_succ]
      clear hK K
      refine wpQuiet_step (fun K hK => ?_)
      rw [if_pos (by rfl)]
      refine ⟨_, fun w _ => quiet_cat (.tmp 9) (.tmp 19) rfl (ShaMath.hexL (xs.take k)) ((digitsL.drop q1).take (q1 + 1 - q1)) rfl rfl (by have := HLN.out; simp [this]; omega), hK _ ?_⟩
      simp only [Act.put, List.setIfInBounds_toArray, List.set_cons_zero, List.set_cons_succ]
      clear hK K
      obtain ⟨T1, hT1⟩ : ∃ T, T = ShaMath.hexL (xs.take k) ++ ((digitsL.drop q1).take (q1 + 1 - q1)) := ⟨_, rfl⟩
      have HT1 : Hid _ := hT1
      rw [← hT1]
      obtain ⟨T2, hT2⟩ : ∃ T, T = ((digitsL.drop q1).take (q1 + 1 - q1)) := ⟨_, rfl⟩
      rw [← hT2]
      have HTl : Hid (T1.length ≤ 2 * k + 16) := by show _ ≤ _; rw [hT1, List.length_append, HLN.out, List.length_take]; have := (show (digitsL.drop q1).length ≤ 16 by rw [List.length_drop]; exact Nat.sub_le _ _); omega
      clear hT1 hT2
      iterate 9 quiet_step (fail)
      refine wpQuiet_step (fun K hK => ?_)
      rw [if_pos (by rfl)]
      refine ⟨_, fun w _ => quiet_slice _ (.tmp 24) (.tmp 29) rfl digitsL (by show Value.string _ = _; rw [dig_str]) .u8 .u8 q2 (q2 + 1) rfl rfl (by omega) (by show q2 + 1 ≤ 16; omega), hK _ ?_⟩
      simp only [Act.put, List.setIfInBounds_toArray, List.set_cons_zero, List.set_cons_succ]
      clear hK K
      refine wpQuiet_step (fun K hK => ?_)
      rw [if_pos (by rfl)]
      refine ⟨_, fun w _ => quiet_cat (.tmp 20) (.tmp 30) rfl T1 ((digitsL.drop q2).take (q2 + 1 - q2)) rfl rfl (by have := HTl.out; rw [List.length_take]; omega), hK _ ?_⟩
      simp only [Act.put, List.setIfInBounds_toArray, List.set_cons_zero, List.set_cons_succ]
      clear hK K
      have HE0 : Hid (ShaMath.hexL (xs.take k) ++ ((digitsL.drop q1).take (q1 + 1 - q1)) ++ ((digitsL.drop q2).take (q2 + 1 - q2)) = ShaMath.hexL (xs.take (k + 1))) := by
        have hkl : k < xs.length := by rw [HL.out]; exact hlt
        obtain ⟨g1, g2, gc⟩ := GQ.out
        have hcx : xs[k] = c := by rw [gc]; simp [hkl]
        have hd : ∀ q, q < 16 → (digitsL.drop q).take (q + 1 - q) = [ShaMath.hexd q] := by
          intro q hq
          have : ∀ q : Fin 16, (digitsL.drop q.val).take (q.val + 1 - q.val) = [ShaMath.hexd q.val] := by decide
          exact this ⟨q, hq⟩
        show _ = _
        rw [hd q1 hq1l, hd q2 hq2l, List.take_succ_eq_append_getElem hkl, hcx, hexL_snoc, g1, g2, List.append_assoc]
        rfl
      rw [show T1 ++ ((digitsL.drop q2).take (q2 + 1 - q2)) = ShaMath.hexL (xs.take (k + 1)) by rw [HT1.out]; exact HE0.out]
      generalize ((digitsL.drop q2).take (q2 + 1 - q2)) = T3
      generalize hT4 : ShaMath.hexL (xs.take (k + 1)) = T4
      have HT4 : Hid _ := hT4
      clear hT4
      quiet_step (fail)
      refine wpQuiet_nil ?_
      intro _ hw'
      obtain ⟨nq, hw''⟩ := hw'
      subst hw''
      clear hcell hq1 hq2 hw1 hw2
      go_wp2
      go_roundw
      case rel => exact ⟨k + 1, _, by omega, by go_num, by rw [HT4.out], rfl⟩
      case measure => simp [intOf]; omega
    · obtain rfl : k = 32 := by omega
      rw [List.take_of_length_le (by rw [HL.out]; omega)]
      go_wp2
      go_ret
      exact ⟨rfl, Below.drewN HBl.out _⟩

end Go.Proofs.YtfgpoclflikhmaaDoor

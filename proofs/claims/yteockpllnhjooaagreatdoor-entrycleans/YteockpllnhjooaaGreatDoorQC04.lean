/-
  FnShaRot.
-/
import Derived.Test.YteockpllnhjooaaGreatDoorQC02
import Derived.Test.YteockpllnhjooaaGreatDoorQC01
import Derived.Deep.QuietTactic
import Derived.Deep.MidRow
namespace Go.Proofs.YteockpllnhjooaaGreatDoor
open Go.RowKit NumMath
set_option maxRecDepth 100000
set_option linter.unusedVariables false
set_option linter.unusedSimpArgs false

theorem or_lt {a b : Nat} (ha : a < 4294967296) (hb : b < 4294967296) : a ||| b < 4294967296 := Nat.or_lt_two_pow (n := 32) ha hb
theorem xor_lt32 {a b : Nat} (ha : a < 4294967296) (hb : b < 4294967296) : a ^^^ b < 4294967296 := Nat.xor_lt_two_pow (n := 32) ha hb
theorem rotr_lt (x n : Nat) (hx : x < 4294967296) : ShaMath.rotr x n < 4294967296 :=
  or_lt (Nat.lt_of_le_of_lt (Nat.div_le_self _ _) hx) (Nat.mod_lt _ (by decide))

theorem pow_nat (n : Nat) : ((2 ^ n : Nat) : Int) = 2 ^ n := by simp
theorem rot_eq (x n : Nat) (hx : x < 4294967296) : bits .or .u32 ((x : Int) * 2 ^ (32 - n) % 4294967296) ((x : Int) / 2 ^ n) = ((ShaMath.rotr x n : Nat) : Int) := by
  have e1 : ((x : Int) * 2 ^ (32 - n) % 4294967296) = ((x * 2 ^ (32 - n) % 4294967296 : Nat) : Int) := by simp
  have e2 : ((x : Int) / 2 ^ n) = ((x / 2 ^ n : Nat) : Int) := by simp
  rw [e1, e2, u32_or_nat _ _ (Nat.mod_lt _ (by decide)) (Nat.lt_of_le_of_lt (Nat.div_le_self _ _) hx), Nat.or_comm]
  rfl
theorem u32_or_comm (x y : Int) : bits .or .u32 x y = bits .or .u32 y x := by
  unfold bits; simp only; rw [BitVec.or_comm]

theorem and31u : ∀ n : Fin 32, 1 ≤ n.val → bits .and .u64 (18446744073709551616 - (n.val : Int)) 31 = 32 - (n.val : Int) := by decide +kernel

theorem rot_any (x n : Nat) (w : World) (hx : x < 4294967296) (h1 : 1 ≤ n) (h2 : n ≤ 31) :
    Calls Tryz.prog 106 #[.int .u32 (x : Int), .int .i64 (-(n : Int))] w fun e w' => e = .returned (.int .u32 (ShaMath.rotr x n : Nat)) ∧ w' = w := by
  have hw : IntKind.u64.wrap (-(n : Int)) = 18446744073709551616 - (n : Int) := by simp [IntKind.wrap, IntKind.bits, IntKind.signed]; omega
  have hb := and31u ⟨n, by omega⟩ h1
  simp only at hb
  have hs : (32 - (n : Int)).toNat = 32 - n := by omega
  have hs2 : (32 - (32 - (n : Int))).toNat = n := by omega
  have h1' : (1 : Int) ≤ n := by omega
  have h2' : (n : Int) ≤ 31 := by omega
  go_enter Tryz.func106, Tryz.ntmps106
  go_wp2
  go_ret
  exact ⟨ret_int (rot_eq x n hx), rfl⟩

theorem turned_any (x i j k : Nat) (w : World) (hx : x < 4294967296) (hi : 1 ≤ i ∧ i ≤ 31) (hj : 1 ≤ j ∧ j ≤ 31) (hk : 1 ≤ k ∧ k ≤ 31) :
    Calls Tryz.prog 93 #[.int .u32 (x : Int), .int .i64 (i : Int), .int .i64 (j : Int), .int .i64 (k : Int)] w fun e w' => e = .returned (.int .u32 ((ShaMath.rotr x i ^^^ ShaMath.rotr x j ^^^ ShaMath.rotr x k : Nat) : Int)) ∧ w' = w := by
  have Hi : Hid _ := rot_any x i w hx hi.1 hi.2
  have Hj : Hid _ := rot_any x j w hx hj.1 hj.2
  have Hk : Hid _ := rot_any x k w hx hk.1 hk.2
  have e1 := u32_xor_nat _ _ (rotr_lt x i hx) (rotr_lt x j hx)
  have e2 := u32_xor_nat _ _ (xor_lt32 (rotr_lt x i hx) (rotr_lt x j hx)) (rotr_lt x k hx)
  obtain ⟨hi1, hi2⟩ := hi
  obtain ⟨hj1, hj2⟩ := hj
  obtain ⟨hk1, hk2⟩ := hk
  generalize ShaMath.rotr x i = p at *
  generalize ShaMath.rotr x j = q at *
  generalize ShaMath.rotr x k = r at *
  have E1 : Hid _ := e1
  have E2 : Hid _ := e2
  clear e1 e2
  go_enter Tryz.func93, Tryz.ntmps93
  go_wp2_with fail
  refine Calls.mono Hi.out ?_; rintro e w1 ⟨rfl, rfl⟩
  go_wp2_with fail
  refine Calls.mono Hj.out ?_; rintro e w1 ⟨rfl, rfl⟩
  go_wp2_with fail
  refine Calls.mono Hk.out ?_; rintro e w1 ⟨rfl, rfl⟩
  go_wp2
  go_ret
  exact ⟨ret_int (by rw [E1.out, E2.out]), rfl⟩

theorem turn_any (x n : Nat) (w : World) (hx : x < 4294967296) (h1 : 1 ≤ n) (h2 : n ≤ 31) :
    Calls Tryz.prog 91 #[.int .u32 (x : Int), .int .i64 (n : Int)] w fun e w' => e = .returned (.int .u32 (ShaMath.rotr x n : Nat)) ∧ ∃ m, w' = w.drewN m := by
  have hs : (32 - (n : Int)).toNat = 32 - n := by omega
  have h1' : (1 : Int) ≤ n := by omega
  have h2' : (n : Int) ≤ 31 := by omega
  go_enter Tryz.func91, Tryz.ntmps91
  go_wp2
  go_region
  go_wp2
  go_ret
  exact ⟨ret_int (by rw [u32_or_comm]; exact rot_eq x n hx), 1, rfl⟩

end Go.Proofs.YteockpllnhjooaaGreatDoor

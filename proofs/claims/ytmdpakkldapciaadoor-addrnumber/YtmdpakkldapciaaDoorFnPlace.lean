/-
  Walk of newsreelhelp.Place: a number from 0 to n - 1 out of any number.
-/
import Derived.Test.YtmdpakkldapciaaDoorKit
namespace Go.Proofs.YtmdpakkldapciaaDoor
open Go.RowKit NumMath
set_option maxRecDepth 100000
set_option linter.unusedVariables false
set_option linter.unusedSimpArgs false

theorem tmod_or (k : Int) (n : Nat) : k.tmod (n : Int) = k % (n : Int) ∨ k.tmod (n : Int) = k % (n : Int) - (n : Int) := by
  rw [Int.tmod_eq_emod]
  split
  · left; omega
  · right; simp

theorem place_any (k : Int) (n : Nat) (w : World) (h0 : -9223372036854775808 ≤ k) (h1 : k ≤ 9223372036854775807) (hn : 0 < n) (hn1 : n ≤ 4611686018427387904) :
    Calls Tryd.prog 20 #[.int .i64 k, .int .i64 (n : Int)] w fun e w' => e = .returned (.int .i64 (k % (n : Int))) ∧ w' = w := by
  have hne : (n : Int) ≠ 0 := by omega
  have hne2 : ((n : Int) == 0) = false := by simpa using hne
  have ha := Int.emod_nonneg k hne
  have hb := Int.emod_lt_of_pos k (show (0 : Int) < (n : Int) by omega)
  have ho := tmod_or k n
  have HO : Hid _ := ho
  have hl : -(n : Int) ≤ k.tmod (n : Int) ∧ k.tmod (n : Int) ≤ (n : Int) := by omega
  clear ho
  by_cases hk : 0 ≤ k
  · go_enter Tryd.func20, Tryd.ntmps20
    go_wp2
    go_ret
    exact ⟨rfl, rfl⟩
  · go_enter Tryd.func20, Tryd.ntmps20
    go_wp2
    · have hlt : k.tmod (n : Int) < 0 := by assumption
      go_ret
      exact ⟨ret_int (by have := HO.out; omega), rfl⟩
    · have hge : 0 ≤ k.tmod (n : Int) := by assumption
      go_ret
      exact ⟨ret_int (by have := HO.out; omega), rfl⟩
end Go.Proofs.YtmdpakkldapciaaDoor

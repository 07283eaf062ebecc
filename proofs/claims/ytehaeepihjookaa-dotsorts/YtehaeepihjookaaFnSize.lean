/-
  Walk of num.Size.
-/
import Derived.Test.YtehaeepihjookaaKit
namespace Go.Proofs.Ytehaeepihjookaa
open Go.RowKit NumMath
set_option maxRecDepth 100000
set_option linter.unusedVariables false
set_option linter.unusedSimpArgs false

theorem size_any (v : Int) (w : World) (h0 : 0 ≤ v) (h1 : v ≤ 18446744073709551615) :
    Calls Try.prog 40 #[.int .u64 v] w fun e w' => e = .returned (.int .i64 ((D v).length : Int)) ∧ w' = w := by
  go_enter Try.func40, Try.ntmps40
  go_wp2
  go_loop [0, 3] (fun x n => ∃ (V : Int) (k : Nat), 0 ≤ V ∧ V ≤ 18446744073709551615 ∧ x = .int .u64 V ∧ n = .int .i64 ((k : Int) + 1) ∧ k + (D V).length = (D v).length) (fun x _ => (intOf x).toNat)
  case atStart => exact ⟨v, 0, h0, h1, rfl, rfl, by omega⟩
  case round =>
    obtain ⟨V, k, hV0, hV1, rfl, rfl, hk⟩ := hrel
    have hl := D_len v
    have hl2 := D_len V
    have HK : Hid (k + (D V).length = (D v).length) := hk
    have hk10 : k ≤ 10 := by omega
    clear hk
    go_wp2
    · have hge : 128 ≤ V := by assumption
      have hk := HK.out
      rw [D_step hV0 hV1 (by omega)] at hk
      simp only [List.length_cons] at hk
      go_round
      case rel => exact ⟨V / 128, k + 1, by omega, by omega, rfl, by go_num, by omega⟩
      case measure => simp [intOf]; omega
    · have hlt : V < 128 := by assumption
      have hk := HK.out
      rw [D_small hlt] at hk
      simp only [List.length_cons, List.length_nil] at hk
      go_ret
      exact ⟨ret_int (by omega), rfl⟩

end Go.Proofs.Ytehaeepihjookaa

/-
  Walks of num.Size, num.lastFits: what each answers for every argument.
-/
import Derived.Test.YtomfbgeolflenaaRows
import Derived.Test.YtomfbgeolflenaaMath
import Derived.WalkKit
namespace Go.Proofs.Ytomfbgeolflenaa
open Go.RowKit NumMath

theorem ret_int {k : IntKind} {a b : Int} (h : a = b) : Ending.returned (.int k a) = .returned (.int k b) := by rw [h]

theorem size_any (v : Int) (w : World) (h0 : 0 ≤ v) (h1 : v ≤ 18446744073709551615) :
    Calls Try.prog 11 #[.int .u64 v] w fun e w' => e = .returned (.int .i64 ((D v).length : Int)) ∧ w' = w := by
  go_enter Try.func11, Try.ntmps11
  go_wp2
  go_loop [0, 3] (fun x n => ∃ (V : Int) (k : Nat), 0 ≤ V ∧ V ≤ 18446744073709551615 ∧ x = .int .u64 V ∧ n = .int .i64 ((k : Int) + 1) ∧ k + (D V).length = (D v).length) (fun x _ => (intOf x).toNat)
  case atStart => exact ⟨v, 0, h0, h1, rfl, rfl, by omega⟩
  case round =>
    obtain ⟨V, k, hV0, hV1, rfl, rfl, hk⟩ := hrel
    have hl := D_len v
    have hl2 := D_len V
    have HK : Hid (k + (D V).length = (D v).length) := hk
    have hk10 : k ≤ 10 := by omega
    clear hk
    go_wp2
    · have hge : 128 ≤ V := by assumption
      have hk := HK.out
      rw [D_step hV0 hV1 (by omega)] at hk
      simp only [List.length_cons] at hk
      go_round
      case rel => exact ⟨V / 128, k + 1, by omega, by omega, rfl, by go_num, by omega⟩
      case measure => simp [intOf]; omega
    · have hlt : V < 128 := by assumption
      have hk := HK.out
      rw [D_small hlt] at hk
      simp only [List.length_cons, List.length_nil] at hk
      go_ret
      exact ⟨ret_int (by omega), rfl⟩

theorem lastFits_any (c : Int) (i : Nat) (w : World) (h0 : 0 ≤ c) (h1 : c ≤ 255) (hi : i ≤ 10) :
    Calls Try.prog 21 #[.int .u8 c, .int .i64 (i : Int)] w fun e w' => e = .returned (.bool (fits c i)) ∧ w' = w := by
  by_cases hc : c = 0
  · subst hc
    by_cases hi0 : i = 0
    · subst hi0
      go_enter Try.func21, Try.ntmps21
      go_wp2
      go_ret
      exact ⟨rfl, rfl⟩
    · have hb : ((i : Int) == 0) = false := by simp; omega
      go_enter Try.func21, Try.ntmps21
      go_wp2
      go_ret
      exact ⟨by simp [fits, hi0], rfl⟩
  · have hb : (c == 0) = false := by simp [hc]
    by_cases hi9 : i < 9
    · have hd : decide ((i : Int) < 9) = true := by simp; omega
      go_enter Try.func21, Try.ntmps21
      go_wp2
      go_ret
      exact ⟨by simp [fits, hc, hi9], rfl⟩
    · have hd : decide ((i : Int) < 9) = false := by simp; omega
      go_enter Try.func21, Try.ntmps21
      go_wp2
      go_ret
      exact ⟨by simp [fits, hc, hi9], rfl⟩
end Go.Proofs.Ytomfbgeolflenaa

/-
  Walk of newsreelref4.Dec; a number's digits as a port.
-/
import Derived.Test.YtmdpakkldapciaaDoorFnRefD
namespace Go.Proofs.YtmdpakkldapciaaDoor
open Go.RowKit NumMath
open AddrMath (isPort digit value)
set_option maxRecDepth 100000
set_option linter.unusedVariables false
set_option linter.unusedSimpArgs false

/-- The digits of a number. -/
def decL (n : Nat) : List Nat := if h : n < 10 then [48 + n] else decL (n / 10) ++ [48 + n % 10]
theorem decL_small {n : Nat} (h : n < 10) : decL n = [48 + n] := by rw [decL, dif_pos h]
theorem decL_step {n : Nat} (h : 10 ≤ n) : decL n = decL (n / 10) ++ [48 + n % 10] := by rw [decL, dif_neg (by omega)]
theorem value_app (a : List Nat) (c : Nat) : value (a ++ [c]) = value a * 10 + (c - 48) := by simp [value]
theorem decL_value : ∀ n, value (decL n) = n := by
  intro n
  induction n using Nat.strongRecOn with
  | _ n ih =>
    by_cases h : n < 10
    · rw [decL_small h]; simp [value]
    · rw [decL_step (by omega), value_app, ih (n / 10) (by omega)]; omega
theorem decL_digit : ∀ n, ∀ c ∈ decL n, 48 ≤ c ∧ c ≤ 57 := by
  intro n
  induction n using Nat.strongRecOn with
  | _ n ih =>
    by_cases h : n < 10
    · rw [decL_small h]; intro c hc; simp at hc; omega
    · rw [decL_step (by omega)]
      intro c hc
      rcases List.mem_append.1 hc with h1 | h1
      · exact ih (n / 10) (by omega) c h1
      · simp at h1; omega
theorem decL_head : ∀ n, 0 < n → (decL n).head? ≠ some 48 := by
  intro n
  induction n using Nat.strongRecOn with
  | _ n ih =>
    intro h0
    by_cases h : n < 10
    · rw [decL_small h]; simp; omega
    · rw [decL_step (by omega)]
      have := ih (n / 10) (by omega) (by omega)
      cases hd : decL (n / 10) with
      | nil => rw [decL] at hd; split at hd <;> simp at hd
      | cons x t => rw [hd] at this; simpa using this
theorem decL_ne (n : Nat) : decL n ≠ [] := by rw [decL]; split <;> simp
theorem decL_len : ∀ k n, n < 10 ^ (k + 1) → (decL n).length ≤ k + 1
  | 0, n, h => by rw [decL_small (by simpa using h)]; simp
  | k + 1, n, h => by
    by_cases h1 : n < 10
    · rw [decL_small h1]; simp
    · rw [decL_step (by omega)]
      have := decL_len k (n / 10) (by rw [Nat.pow_succ] at h; omega)
      simp; omega
theorem decL_port {n : Nat} (hn : n < 100000) : isPort (decL n) = decide (1 ≤ n ∧ n ≤ 65535) := by
  have hl := decL_len 4 n (by simpa using hn)
  have hp : 1 ≤ (decL n).length := by cases h : decL n with | nil => exact absurd h (decL_ne n) | cons x t => simp
  have hd : (decL n).all digit = true := by
    rw [List.all_eq_true]
    intro c hc
    have := decL_digit n c hc
    simp [digit]; omega
  unfold isPort
  rw [decL_value, hd]
  by_cases h0 : n = 0
  · subst h0; rw [decL_small (by omega)]; simp
  · have hh := decL_head n (by omega)
    have e1 : ((decL n).head? != some 48) = true := by simp [bne, hh]
    rw [e1]
    rw [Bool.eq_iff_iff]
    simp
    omega
theorem decL_lt (n : Nat) : ∀ c ∈ decL n, c < 256 := fun c hc => by have := decL_digit n c hc; omega

def tens : List Nat := [48, 49, 50, 51, 52, 53, 54, 55, 56, 57]
theorem tens_at : ∀ p : Fin 10, (tens.drop p.val).take (p.val + 1 - p.val) = [48 + p.val] := by decide
set_option maxRecDepth 100000 in
theorem dec_any (n : Nat) (w : World) (hn : n < 100000) :
    Calls Tryd.prog 21 #[.int .i64 (n : Int)] w fun e w' => e = .returned (.string (strN (decL n))) ∧ w' = w := by
  have hsl : ∀ p : Nat, p < 10 → ∀ w, (Instr.sliceAt 9 (.string ⟨#[48, 49, 50, 51, 52, 53, 54, 55, 56, 57]⟩) (some (.int .i64 (p : Int))) (some (.int .i64 ((p : Int) + 1))) none).run Tryd.prog w = .ok (.string (strN [48 + p])) w := by
    intro p hp w
    have := run_slice_strN (w := w) tens .i64 .i64 p (p + 1) (by omega) (by show p + 1 ≤ 10; omega)
    rw [tens_at ⟨p, hp⟩] at this
    exact this
  have hll := decL_len 4 n (by simpa using hn)
  go_enter Tryd.func21, Tryd.ntmps21
  go_wp2
  go_loopw [0, 3] (fun i s wr => ∃ (m : Nat) (t : List Nat), m ≤ n ∧ i = .int .i64 (m : Int) ∧ s = .string (strN t) ∧ decL n = decL m ++ t ∧ wr = w) (fun i s _ => (intOf i).toNat)
  case atStart => exact ⟨n, [], by omega, rfl, rfl, by simp, rfl⟩
  case round =>
    obtain ⟨m, t, hm, rfl, rfl, hd, rfl⟩ := hrel
    have HD : Hid _ := hd
    have htl : t.length ≤ 5 := by have := congrArg List.length hd; simp at this; omega
    clear hd
    by_cases h10 : 10 ≤ m
    · obtain ⟨r, hr, hre⟩ : ∃ r : Nat, (m : Int).tmod 10 = (r : Int) ∧ r = m % 10 := ⟨m % 10, by rw [Int.tmod_eq_emod_of_nonneg (by omega)]; omega, rfl⟩
      have hr2 : (m : Int) % 10 = (r : Int) := by omega
      obtain ⟨d, hdv, hde⟩ : ∃ d : Nat, (m : Int).tdiv 10 = (d : Int) ∧ d = m / 10 := ⟨m / 10, by rw [Int.tdiv_eq_ediv_of_nonneg (by omega)]; omega, rfl⟩
      have hdv2 : (m : Int) / 10 = (d : Int) := by omega
      have hs := hsl r (by omega)
      have hc : ∀ w, (Op.stringOp BinOp.add (strN [48 + r]) (strN t)).run Tryd.prog w = .ok (.string (strN ((48 + r) :: t))) w := sum_strN [48 + r] t (by simp; omega)
      have HN : Hid (decL n = decL d ++ ((48 + r) :: t)) := by
        show _ = _
        rw [HD.out, decL_step h10, ← hre, ← hde, List.append_assoc]; rfl
      have hdm : d < m := by omega
      have hr10 : r < 10 := by omega
      clear hre hde hsl
      go_wp2
      go_roundw
      case rel => exact ⟨d, (48 + r) :: t, by omega, rfl, rfl, HN.out, by simp⟩
      case measure => simp [intOf]; omega
    · have hs := hsl m (by omega)
      have hc : ∀ w, (Op.stringOp BinOp.add (strN [48 + m]) (strN t)).run Tryd.prog w = .ok (.string (strN (decL n))) w := by
        rw [HD.out, decL_small (by omega)]
        exact sum_strN [48 + m] t (by simp; omega)
      have hm9 : m < 10 := by omega
      clear hsl
      go_wp2
      go_ret
      exact ⟨rfl, rfl⟩
end Go.Proofs.YtmdpakkldapciaaDoor

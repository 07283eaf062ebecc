/-
  Walk of num.Take.
-/
import Derived.Test.YtehaeepihjookaaFnLastFits
namespace Go.Proofs.Ytehaeepihjookaa
open Go.RowKit NumMath
set_option maxRecDepth 100000
set_option linter.unusedVariables false
set_option linter.unusedSimpArgs false

/-- The three results of Take, as one value. -/
def takV (t : Int × Int × Int) : Value := .tuple #[.int .u64 t.1, .int .i64 t.2.1, .int .i64 t.2.2]

theorem two7 (k : Nat) : (2 : Int) ^ (7 * k) = 128 ^ k := by rw [Int.pow_mul]; rfl

theorem or_low {V H : Int} (k : Nat) (hV0 : 0 ≤ V) (hV : V < 128 ^ k) (d : Int) (hH : H = d * 128 ^ k) (hd : 0 ≤ d) (hH1 : H ≤ 18446744073709551615) (hV1 : V ≤ 18446744073709551615) : bits .or .u64 V H = V + H := by
  have hpos : (0 : Int) ≤ 128 ^ k := Int.pow_nonneg (by omega)
  have hH0 : 0 ≤ H := by rw [hH]; exact Int.mul_nonneg hd hpos
  have hc : bits .or .u64 V H = bits .or .u64 H V := by
    rw [u64_or V H hV0 (by omega) hH0 (by omega), u64_or H V hH0 (by omega) hV0 (by omega), Nat.or_comm]
  rw [hc, bits_join .u64 64 (by decide) wraps64 (7 * k) H V hH0 ?_ ?_ hV0 ?_ ?_]
  · omega
  · rw [two7, hH]; exact Int.mul_emod_left d (128 ^ k)
  · rw [p64]; omega
  · rw [two7]; exact hV
  · rw [p64]; omega

/-- One digit more, at place k. -/
theorem take_step {zs : List Int} {k : Nat} (hk : k < zs.length) (h9 : k < 9 ∨ zs[k]?.getD 0 ≤ 1 ∧ 0 ≤ zs[k]?.getD 0 ∧ k = 9) :
    bits .or .u64 (lowL (zs.take k)) (IntKind.u64.wrap (zs[k]?.getD 0 % 128 * 2 ^ (7 * k))) = lowL (zs.take (k + 1)) := by
  have hb := lowL_bd (zs.take k)
  have hl : (zs.take k).length = k := by simp; omega
  rw [hl] at hb
  rw [take_snoc zs k hk, lowL_snoc, hl, two7]
  have hp : (0 : Int) < 128 ^ k := Int.pow_pos (by omega)
  have hp9 : (128 : Int) ^ k ≤ 128 ^ 9 := by
    have := Nat.pow_le_pow_right (show 0 < 128 by omega) (show k ≤ 9 by omega)
    have h4 : ((128 : Nat) : Int) ^ k ≤ ((128 : Nat) : Int) ^ 9 := by
      rw [← Int.natCast_pow, ← Int.natCast_pow]; exact Int.ofNat_le.2 this
    exact h4
  have h5 : (128 : Int) ^ 9 = 9223372036854775808 := by decide
  have hH : 0 ≤ zs[k]?.getD 0 % 128 * 128 ^ k ∧ zs[k]?.getD 0 % 128 * 128 ^ k ≤ 18446744073709551615 := by
    refine ⟨Int.mul_nonneg (by omega) (by omega), ?_⟩
    rcases h9 with h | ⟨h1, h2, rfl⟩
    · have hp8 : (128 : Int) ^ k ≤ 128 ^ 8 := by
        have := Nat.pow_le_pow_right (show 0 < 128 by omega) (show k ≤ 8 by omega)
        have h4 : ((128 : Nat) : Int) ^ k ≤ ((128 : Nat) : Int) ^ 8 := by
          rw [← Int.natCast_pow, ← Int.natCast_pow]; exact Int.ofNat_le.2 this
        exact h4
      have h6 : (128 : Int) ^ 8 = 72057594037927936 := by decide
      have h7 : zs[k]?.getD 0 % 128 * 128 ^ k ≤ 127 * 128 ^ k := Int.mul_le_mul_of_nonneg_right (by omega) (by omega)
      omega
    · rw [h5]; omega
  rw [IntWalk.u64_in _ hH]
  exact or_low k hb.1 hb.2 _ rfl (by omega) hH.2 (by omega)

theorem take_any (a : Option Addr) (zs : List Int) (cap : Nat) (w : World) (hr : Row .u8 w a zs) (hb : ∀ c ∈ zs, 0 ≤ c ∧ c ≤ 255) (hc : zs.length ≤ cap) (hm : cap ≤ maxLen) :
    Calls Try.prog 31 #[.slice a zs.length cap] w fun e w' => e = .returned (takV (tak zs)) ∧ w' = w := by
  unfold maxLen at hm
  rcases hr with rfl | ⟨b, off, rfl, hcell⟩
  · go_enter Try.func31, Try.ntmps31
    go_wp2
    refine wp_loop_rounds 1 ?_
    rw [rounds_succ]
    go_wp2
    go_ret3
    exact ⟨rfl, rfl⟩
  · obtain ⟨n, hn⟩ : ∃ n, n = zs.length := ⟨_, rfl⟩
    rw [← hn] at hc hcell ⊢
    have HN : Hid (n = zs.length) := hn
    clear hn
    by_cases h8 : n ≤ 10
    all_goals
      go_enter Try.func31, Try.ntmps31
      go_wp2
      go_loop [5, 14] (fun v i => ∃ (k : Nat) (V : Int), k ≤ 10 ∧ k ≤ n ∧ i = .int .i64 k ∧ v = .int .u64 V ∧ 0 ≤ V ∧ V ≤ 18446744073709551615 ∧ (k ≤ 9 → V = lowL (zs.take k)) ∧ (∀ j, j < k → 128 ≤ zs[j]?.getD 0)) (fun _ i => 10 - (intOf i).toNat)
      case atStart => exact ⟨0, 0, by omega, by omega, rfl, rfl, by omega, by omega, fun _ => rfl, fun j hj => by omega⟩
      case round =>
        obtain ⟨k, V, hk8, hkn, rfl, rfl, hV0, hV1, hV, hall⟩ := hrel
        have hn := HN.out
        by_cases hlt : k < n ∧ k < 10
        · obtain ⟨hlt1, hlt2⟩ := hlt
          obtain ⟨c, hcc⟩ : ∃ c, c = zs[k]?.getD 0 := ⟨_, rfl⟩
          have hcx : w.cell? ⟨b, off + k, none⟩ = some (.int .u8 c) := by rw [hcc]; simpa using hcell k hlt1
          have hz : 0 ≤ c ∧ c ≤ 255 := by rw [hcc]; exact hb _ (mem_getD zs k (by omega))
          have HC : Hid (c = zs[k]?.getD 0) := hcc
          have HV : Hid (V = lowL (zs.take k)) := hV (by omega)
          have HA : Hid (∀ j, j < k → 128 ≤ zs[j]?.getD 0) := hall
          clear hcell hcc hn hV hall
          go_wp2_with (go_at_call 41; refine (lastFits_any _ _ _ (by omega) (by omega) (by omega)).mono ?_; rintro e w' ⟨rfl, rfl⟩)
          · have h128 : 128 ≤ c := by assumption
            go_round
            case rel =>
              refine ⟨k + 1, _, by omega, by omega, by go_num, rfl, bits_lo_u64 _ _ _, bits_hi_u64 _ _ _, fun h => ?_, fun j hj => ?_⟩
              · rw [HV.out, HC.out]
                exact take_step (by have := HN.out; omega) (.inl (by omega))
              · by_cases e : j = k
                · subst e; rw [← HC.out]; exact h128
                · exact HA.out j (by omega)
            case measure => simp [intOf]; omega
          · have h128 : c < 128 := by assumption
            have hf : (!fits c k) = true := by assumption
            have ht := tak_last HA.out (by have := HN.out; omega) hlt2 (by rw [← HC.out]; exact h128)
            rw [← HC.out] at ht
            rw [if_neg (by simpa using hf)] at ht
            go_ret3
            exact ⟨by rw [ht]; rfl, rfl⟩
          · have h128 : c < 128 := by assumption
            have hf : (!fits c k) = false := by assumption
            have hf' : fits c k = true := by simpa using hf
            have hkz : k < zs.length := by have := HN.out; omega
            have ht := tak_last HA.out hkz hlt2 (by rw [← HC.out]; exact h128)
            rw [← HC.out, if_pos hf'] at ht
            have hs : bits .or .u64 V (IntKind.u64.wrap (c % 128 * 2 ^ (7 * k))) = lowL (zs.take (k + 1)) := by
              rw [HV.out, HC.out]
              refine take_step hkz ?_
              by_cases h9 : k < 9
              · exact .inl h9
              · refine .inr ⟨?_, ?_, by omega⟩
                · rw [← HC.out]
                  unfold fits at hf'
                  split at hf'
                  · omega
                  · simp only [h9, decide_false, Bool.false_or, decide_eq_true_eq] at hf'; exact hf'
                · rw [← HC.out]; omega
            go_ret3
            exact ⟨by rw [ht, ← hs]; rfl, rfl⟩
        · by_cases h10 : n < 10
          · have ht := tak_short (zs := zs) (k := k) hall (by omega) (by omega)
            have HT : Hid (tak zs = (0, 0, 20)) := ht
            clear ht hn hV hall hcell
            first
              | (exfalso; omega)
              | (go_wp2; go_ret3; exact ⟨by rw [HT.out]; rfl, rfl⟩)
          · have hk10 : k = 10 := by omega
            subst hk10
            have ht := tak_ten (zs := zs) hall (by omega)
            have HT : Hid (tak zs = (0, 0, 21)) := ht
            clear ht hn hV hall hcell
            go_wp2
            go_ret3
            exact ⟨by rw [HT.out]; rfl, rfl⟩

end Go.Proofs.Ytehaeepihjookaa

/-
  Walk of newsreelref1.Take.
-/
import Derived.Test.YtehaeepihjookaaFnTake
namespace Go.Proofs.Ytehaeepihjookaa
open Go.RowKit NumMath
set_option maxRecDepth 100000
set_option linter.unusedVariables false
set_option linter.unusedSimpArgs false

theorem mask127 {c : Int} (h₀ : 0 ≤ c) (h₁ : c ≤ 255) : bits .and .u8 c 127 = c % 128 := bits_mask .u8 8 (by decide) wraps_u8 7 (by decide) c h₀ (by omega)

theorem or7 {x c : Int} (h0 : 0 ≤ x) (h1 : x * 128 ≤ 18446744073709551615) (c0 : 0 ≤ c) (c1 : c < 128) : bits .or .u64 (x * 128) c = x * 128 + c := by
  have p7 : (2 : Int) ^ 7 = 128 := by decide
  refine bits_join .u64 64 (by decide) wraps64 7 (x * 128) c (by omega) ?_ ?_ c0 ?_ ?_
  · rw [p7]; omega
  · rw [p64]; omega
  · rw [p7]; omega
  · rw [p64]; omega

theorem fits_cases {c : Int} {k : Nat} (h : fits c k = true) : k = 0 ∨ (0 < k ∧ c ≠ 0 ∧ k ≠ 9) ∨ (0 < k ∧ c ≠ 0 ∧ k = 9 ∧ c ≤ 1) := by
  unfold fits at h
  split at h
  · simp at h; omega
  · simp at h; omega

theorem fits_not {c : Int} {k : Nat} (h : ¬ fits c k = true) : (0 < k ∧ c = 0) ∨ (9 ≤ k ∧ 1 < c ∧ c ≠ 0) := by
  unfold fits at h
  split at h
  · simp at h; omega
  · simp at h; omega

theorem refTake_any (a : Option Addr) (zs : List Int) (cap : Nat) (w : World) (hr : Row .u8 w a zs) (hb : ∀ c ∈ zs, 0 ≤ c ∧ c ≤ 255) (hc : zs.length ≤ cap) (hm : cap ≤ maxLen) :
    Calls Try.prog 32 #[.slice a zs.length cap] w fun e w' => e = .returned (takV (tak zs)) ∧ w' = w := by
  unfold maxLen at hm
  rcases hr with rfl | ⟨b, off, rfl, hcell⟩
  · go_enter Try.func32, Try.ntmps32
    go_wp2
    refine wp_loop_rounds 1 ?_
    rw [rounds_succ]
    go_wp2
    go_ret3
    exact ⟨rfl, rfl⟩
  · obtain ⟨n, hn⟩ : ∃ n, n = zs.length := ⟨_, rfl⟩
    rw [← hn] at hc hcell ⊢
    have HN : Hid (n = zs.length) := hn
    clear hn
    go_enter Try.func32, Try.ntmps32
    go_wp2
    go_loop [5] (fun i => ∃ (k : Nat), k ≤ 10 ∧ k ≤ n ∧ i = .int .i64 k ∧ (∀ j, j < k → 128 ≤ zs[j]?.getD 0)) (fun i => 10 - (intOf i).toNat)
    case atStart => exact ⟨0, by omega, by omega, rfl, fun j hj => by omega⟩
    case round =>
      obtain ⟨k, hk8, hkn, rfl, hall⟩ := hrel
      have hn := HN.out
      have HA : Hid (∀ j, j < k → 128 ≤ zs[j]?.getD 0) := hall
      clear hall
      by_cases hlt1 : k < n
      · by_cases hlt2 : k < 10
        · obtain ⟨c, hcc⟩ : ∃ c, c = zs[k]?.getD 0 := ⟨_, rfl⟩
          have hcx : w.cell? ⟨b, off + k, none⟩ = some (.int .u8 c) := by rw [hcc]; simpa using hcell k hlt1
          have hz : 0 ≤ c ∧ c ≤ 255 := by rw [hcc]; exact hb _ (mem_getD zs k (by omega))
          have HC : Hid (c = zs[k]?.getD 0) := hcc
          have HCELL : Hid (∀ i, i < n → w.cell? ⟨b, off + i, none⟩ = some (.int .u8 (zs.getD i 0))) := hcell
          clear hcell hcc hn
          by_cases h128 : 127 < c
          · go_wp2
            go_round
            case rel =>
              refine ⟨k + 1, by omega, by omega, by go_num, fun j hj => ?_⟩
              by_cases e : j = k
              · subst e; rw [← HC.out]; omega
              · exact HA.out j (by omega)
            case measure => simp [intOf]; omega
          · have ht := tak_last HA.out (by have := HN.out; omega) hlt2 (by rw [← HC.out]; omega)
            rw [← HC.out] at ht
            have e10 : ((k : Int) == 10) = false := by simp; omega
            have en : ((k : Int) == (n : Int)) = false := by simp; omega
            by_cases hf : fits c k = true
            · rw [if_pos hf] at ht
              have HT : Hid (tak zs = (lowL (zs.take (k + 1)), (k : Int) + 1, 0)) := ht
              clear ht
              have hmax : lowL (zs.take (k + 1)) ≤ 18446744073709551615 := lowL_fits (by have := HN.out; omega) hlt2 (by rw [← HC.out]; exact hf) (by rw [← HC.out]; omega)
              have hcase := fits_cases hf
              clear hf
              rcases hcase with hk0 | ⟨hk0, hc0, hk9⟩ | ⟨hk0, hc0, hk9, hc1⟩
              · have g1 : decide (0 < k) = false := by simp; omega
                have g1i : k ≤ 0 := by omega
                have g2 : ((k : Int) == 9) = false := by simp; omega
                clear hk0
                go_wp2
                (
                go_loop [6, 7] (fun v i => ∃ (j : Nat), j ≤ k + 1 ∧ i = .int .i64 ((j : Int) - 1) ∧ v = .int .u64 (lowL ((zs.take (k + 1)).drop j))) (fun _ i => (intOf i + 1).toNat)
                case atStart => exact ⟨k + 1, by omega, by go_num, by rw [List.drop_of_length_le (by simp; omega)]; rfl⟩
                case round =>
                  obtain ⟨j, hj, rfl, rfl⟩ := hrel
                  by_cases hj0 : 1 ≤ j
                  · obtain ⟨q, rfl⟩ : ∃ q, j = q + 1 := ⟨j - 1, by omega⟩
                    obtain ⟨d, hdd⟩ : ∃ d, d = zs[q]?.getD 0 := ⟨_, rfl⟩
                    have hqn : q < n := by omega
                    have hdx : w.cell? ⟨b, off + q, none⟩ = some (.int .u8 d) := by rw [hdd]; simpa using HCELL.out q hqn
                    have hdz : 0 ≤ d ∧ d ≤ 255 := by rw [hdd]; exact hb _ (mem_getD zs q (by have := HN.out; omega))
                    have hmask := mask127 hdz.1 hdz.2
                    have HST : Hid (lowL ((zs.take (k + 1)).drop q) = lowL ((zs.take (k + 1)).drop (q + 1)) * 128 + d % 128) := by
                      have := lowL_step (zs.take (k + 1)) q (by have := HN.out; simp; omega)
                      rw [hdd]
                      rw [show (zs.take (k + 1))[q]?.getD 0 = zs[q]?.getD 0 by rw [List.getElem?_take_of_lt (by omega)]] at this
                      exact this
                    have hlo := (lowL_bd ((zs.take (k + 1)).drop (q + 1))).1
                    have hup : lowL ((zs.take (k + 1)).drop (q + 1)) * 128 ≤ 18446744073709551615 := by
                      have h1 := lowL_drop (zs.take (k + 1)) q
                      have h2 := HST.out
                      omega
                    obtain ⟨X, hX⟩ : ∃ X, X = lowL ((zs.take (k + 1)).drop (q + 1)) := ⟨_, rfl⟩
                    have HX : Hid (X = lowL ((zs.take (k + 1)).drop (q + 1))) := hX
                    rw [← hX] at hlo hup ⊢
                    have HO : Hid (bits .or .u64 (X * 128) (d % 128) = lowL ((zs.take (k + 1)).drop q)) := by
                      rw [HST.out, ← HX.out]; exact or7 hlo hup (by omega) (by omega)
                    clear hX hdd hj0
                    go_wp2
                    go_round
                    case rel => exact ⟨q, by omega, by go_num, by rw [HO.out]⟩
                    case measure => simp [intOf]
                  · obtain rfl : j = 0 := by omega
                    go_wp2
                    go_ret3
                    exact ⟨by rw [HT.out]; rfl, rfl⟩)
              · have g1 : decide (0 < k) = true := by simp; omega
                have g1i : 0 < k := by omega
                have g2 : ((k : Int) == 9) = false := by simp; omega
                have g3 : (c == 0) = false := by simp; omega
                clear hk9 hc0
                go_wp2
                (
                go_loop [6, 7] (fun v i => ∃ (j : Nat), j ≤ k + 1 ∧ i = .int .i64 ((j : Int) - 1) ∧ v = .int .u64 (lowL ((zs.take (k + 1)).drop j))) (fun _ i => (intOf i + 1).toNat)
                case atStart => exact ⟨k + 1, by omega, by go_num, by rw [List.drop_of_length_le (by simp; omega)]; rfl⟩
                case round =>
                  obtain ⟨j, hj, rfl, rfl⟩ := hrel
                  by_cases hj0 : 1 ≤ j
                  · obtain ⟨q, rfl⟩ : ∃ q, j = q + 1 := ⟨j - 1, by omega⟩
                    obtain ⟨d, hdd⟩ : ∃ d, d = zs[q]?.getD 0 := ⟨_, rfl⟩
                    have hqn : q < n := by omega
                    have hdx : w.cell? ⟨b, off + q, none⟩ = some (.int .u8 d) := by rw [hdd]; simpa using HCELL.out q hqn
                    have hdz : 0 ≤ d ∧ d ≤ 255 := by rw [hdd]; exact hb _ (mem_getD zs q (by have := HN.out; omega))
                    have hmask := mask127 hdz.1 hdz.2
                    have HST : Hid (lowL ((zs.take (k + 1)).drop q) = lowL ((zs.take (k + 1)).drop (q + 1)) * 128 + d % 128) := by
                      have := lowL_step (zs.take (k + 1)) q (by have := HN.out; simp; omega)
                      rw [hdd]
                      rw [show (zs.take (k + 1))[q]?.getD 0 = zs[q]?.getD 0 by rw [List.getElem?_take_of_lt (by omega)]] at this
                      exact this
                    have hlo := (lowL_bd ((zs.take (k + 1)).drop (q + 1))).1
                    have hup : lowL ((zs.take (k + 1)).drop (q + 1)) * 128 ≤ 18446744073709551615 := by
                      have h1 := lowL_drop (zs.take (k + 1)) q
                      have h2 := HST.out
                      omega
                    obtain ⟨X, hX⟩ : ∃ X, X = lowL ((zs.take (k + 1)).drop (q + 1)) := ⟨_, rfl⟩
                    have HX : Hid (X = lowL ((zs.take (k + 1)).drop (q + 1))) := hX
                    rw [← hX] at hlo hup ⊢
                    have HO : Hid (bits .or .u64 (X * 128) (d % 128) = lowL ((zs.take (k + 1)).drop q)) := by
                      rw [HST.out, ← HX.out]; exact or7 hlo hup (by omega) (by omega)
                    clear hX hdd hj0
                    go_wp2
                    go_round
                    case rel => exact ⟨q, by omega, by go_num, by rw [HO.out]⟩
                    case measure => simp [intOf]
                  · obtain rfl : j = 0 := by omega
                    go_wp2
                    go_ret3
                    exact ⟨by rw [HT.out]; rfl, rfl⟩)
              · have g1 : decide (0 < k) = true := by simp; omega
                have g1i : 0 < k := by omega
                have g2 : ((k : Int) == 9) = true := by simp; omega
                have g3 : (c == 0) = false := by simp; omega
                clear hk9 hc0
                go_wp2
                (
                go_loop [6, 7] (fun v i => ∃ (j : Nat), j ≤ k + 1 ∧ i = .int .i64 ((j : Int) - 1) ∧ v = .int .u64 (lowL ((zs.take (k + 1)).drop j))) (fun _ i => (intOf i + 1).toNat)
                case atStart => exact ⟨k + 1, by omega, by go_num, by rw [List.drop_of_length_le (by simp; omega)]; rfl⟩
                case round =>
                  obtain ⟨j, hj, rfl, rfl⟩ := hrel
                  by_cases hj0 : 1 ≤ j
                  · obtain ⟨q, rfl⟩ : ∃ q, j = q + 1 := ⟨j - 1, by omega⟩
                    obtain ⟨d, hdd⟩ : ∃ d, d = zs[q]?.getD 0 := ⟨_, rfl⟩
                    have hqn : q < n := by omega
                    have hdx : w.cell? ⟨b, off + q, none⟩ = some (.int .u8 d) := by rw [hdd]; simpa using HCELL.out q hqn
                    have hdz : 0 ≤ d ∧ d ≤ 255 := by rw [hdd]; exact hb _ (mem_getD zs q (by have := HN.out; omega))
                    have hmask := mask127 hdz.1 hdz.2
                    have HST : Hid (lowL ((zs.take (k + 1)).drop q) = lowL ((zs.take (k + 1)).drop (q + 1)) * 128 + d % 128) := by
                      have := lowL_step (zs.take (k + 1)) q (by have := HN.out; simp; omega)
                      rw [hdd]
                      rw [show (zs.take (k + 1))[q]?.getD 0 = zs[q]?.getD 0 by rw [List.getElem?_take_of_lt (by omega)]] at this
                      exact this
                    have hlo := (lowL_bd ((zs.take (k + 1)).drop (q + 1))).1
                    have hup : lowL ((zs.take (k + 1)).drop (q + 1)) * 128 ≤ 18446744073709551615 := by
                      have h1 := lowL_drop (zs.take (k + 1)) q
                      have h2 := HST.out
                      omega
                    obtain ⟨X, hX⟩ : ∃ X, X = lowL ((zs.take (k + 1)).drop (q + 1)) := ⟨_, rfl⟩
                    have HX : Hid (X = lowL ((zs.take (k + 1)).drop (q + 1))) := hX
                    rw [← hX] at hlo hup ⊢
                    have HO : Hid (bits .or .u64 (X * 128) (d % 128) = lowL ((zs.take (k + 1)).drop q)) := by
                      rw [HST.out, ← HX.out]; exact or7 hlo hup (by omega) (by omega)
                    clear hX hdd hj0
                    go_wp2
                    go_round
                    case rel => exact ⟨q, by omega, by go_num, by rw [HO.out]⟩
                    case measure => simp [intOf]
                  · obtain rfl : j = 0 := by omega
                    go_wp2
                    go_ret3
                    exact ⟨by rw [HT.out]; rfl, rfl⟩)
            · rw [if_neg hf] at ht
              have HT : Hid (tak zs = (0, 0, 21)) := ht
              clear ht
              have hcase := fits_not hf
              clear hf
              rcases hcase with ⟨hk0, hc0⟩ | ⟨hk9, hc1, hc0⟩
              · have g1 : decide (0 < k) = true := by simp; omega
                have g1i : 0 < k := by omega
                have g3 : (c == 0) = true := by simp; omega
                clear hc0
                go_wp2
                go_ret3
                exact ⟨by rw [HT.out]; rfl, rfl⟩
              · have g1 : decide (0 < k) = true := by simp; omega
                have g1i : 0 < k := by omega
                have g2 : ((k : Int) == 9) = true := by simp; omega
                have g3 : (c == 0) = false := by simp; omega
                clear hk9
                go_wp2
                go_ret3
                exact ⟨by rw [HT.out]; rfl, rfl⟩
        · have hk10 : k = 10 := by omega
          subst hk10
          have ht := tak_ten (zs := zs) HA.out (by omega)
          have HT : Hid (tak zs = (0, 0, 21)) := ht
          clear ht hn hcell
          go_wp2
          go_ret3
          exact ⟨by rw [HT.out]; rfl, rfl⟩
      · have g0 : decide ((k : Int) < (n : Int)) = false := by simp; omega
        by_cases h10 : k = 10
        · subst h10
          have ht := tak_ten (zs := zs) HA.out (by omega)
          have HT : Hid (tak zs = (0, 0, 21)) := ht
          clear ht hn hcell
          go_wp2
          go_ret3
          exact ⟨by rw [HT.out]; rfl, rfl⟩
        · have ht := tak_short (zs := zs) (k := k) HA.out (by omega) (by omega)
          have HT : Hid (tak zs = (0, 0, 20)) := ht
          have e10 : ((k : Int) == 10) = false := by simp; omega
          have en : ((k : Int) == (n : Int)) = true := by simp; omega
          clear ht hn hcell
          go_wp2
          go_ret3
          exact ⟨by rw [HT.out]; rfl, rfl⟩

end Go.Proofs.Ytehaeepihjookaa

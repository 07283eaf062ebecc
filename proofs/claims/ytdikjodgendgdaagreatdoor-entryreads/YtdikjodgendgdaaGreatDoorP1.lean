/-
  FnRefTake, FnRefPut, FnRefED.
-/
import Derived.Test.YtdikjodgendgdaaGreatDoorQ24
import Derived.Test.YtdikjodgendgdaaGreatDoorQ03
import Derived.Test.YtdikjodgendgdaaGreatDoorQ27
namespace Go.Proofs.YtdikjodgendgdaaGreatDoor
open Go.RowKit NumMath
set_option maxRecDepth 100000
set_option linter.unusedVariables false
set_option linter.unusedSimpArgs false

theorem mask127 {c : Int} (h₀ : 0 ≤ c) (h₁ : c ≤ 255) : bits .and .u8 c 127 = c % 128 := bits_mask .u8 8 (by decide) wraps_u8 7 (by decide) c h₀ (by omega)

theorem or7 {x c : Int} (h0 : 0 ≤ x) (h1 : x * 128 ≤ 18446744073709551615) (c0 : 0 ≤ c) (c1 : c < 128) : bits .or .u64 (x * 128) c = x * 128 + c := by
  have p7 : (2 : Int) ^ 7 = 128 := by decide
  refine bits_join .u64 64 (by decide) wraps64 7 (x * 128) c (by omega) ?_ ?_ c0 ?_ ?_
  · rw [p7]; omega
  · rw [p64]; omega
  · rw [p7]; omega
  · rw [p64]; omega

theorem fits_cases {c : Int} {k : Nat} (h : fits c k = true) : k = 0 ∨ (0 < k ∧ c ≠ 0 ∧ k ≠ 9) ∨ (0 < k ∧ c ≠ 0 ∧ k = 9 ∧ c ≤ 1) := by
  unfold fits at h
  split at h
  · simp at h; omega
  · simp at h; omega

theorem fits_not {c : Int} {k : Nat} (h : ¬ fits c k = true) : (0 < k ∧ c = 0) ∨ (9 ≤ k ∧ 1 < c ∧ c ≠ 0) := by
  unfold fits at h
  split at h
  · simp at h; omega
  · simp at h; omega

theorem refTake_any (a : Option Addr) (zs : List Int) (cap : Nat) (w : World) (hr : Row .u8 w a zs) (hb : ∀ c ∈ zs, 0 ≤ c ∧ c ≤ 255) (hc : zs.length ≤ cap) (hm : cap ≤ maxLen) :
    Calls Tryz.prog 77 #[.slice a zs.length cap] w fun e w' => e = .returned (takV (tak zs)) ∧ w' = w := by
  unfold maxLen at hm
  rcases hr with rfl | ⟨b, off, rfl, hcell⟩
  · go_enter Tryz.func77, Tryz.ntmps77
    go_wp2
    refine wp_loop_rounds 1 ?_
    rw [rounds_succ]
    go_wp2
    go_ret3
    exact ⟨rfl, rfl⟩
  · obtain ⟨n, hn⟩ : ∃ n, n = zs.length := ⟨_, rfl⟩
    rw [← hn] at hc hcell ⊢
    have HN : Hid (n = zs.length) := hn
    clear hn
    go_enter Tryz.func77, Tryz.ntmps77
    go_wp2
    go_loop [5] (fun i => ∃ (k : Nat), k ≤ 10 ∧ k ≤ n ∧ i = .int .i64 k ∧ (∀ j, j < k → 128 ≤ zs[j]?.getD 0)) (fun i => 10 - (intOf i).toNat)
    case atStart => exact ⟨0, by omega, by omega, rfl, fun j hj => by omega⟩
    case round =>
      obtain ⟨k, hk8, hkn, rfl, hall⟩ := hrel
      have hn := HN.out
      have HA : Hid (∀ j, j < k → 128 ≤ zs[j]?.getD 0) := hall
      clear hall
      by_cases hlt1 : k < n
      · by_cases hlt2 : k < 10
        · obtain ⟨c, hcc⟩ : ∃ c, c = zs[k]?.getD 0 := ⟨_, rfl⟩
          have hcx : w.cell? ⟨b, off + k, none⟩ = some (.int .u8 c) := by rw [hcc]; simpa using hcell k hlt1
          have hz : 0 ≤ c ∧ c ≤ 255 := by rw [hcc]; exact hb _ (mem_getD zs k (by omega))
          have HC : Hid (c = zs[k]?.getD 0) := hcc
          have HCELL : Hid (∀ i, i < n → w.cell? ⟨b, off + i, none⟩ = some (.int .u8 (zs.getD i 0))) := hcell
          clear hcell hcc hn
          by_cases h128 : 127 < c
          · go_wp2
            go_round
            case rel =>
              refine ⟨k + 1, by omega, by omega, by go_num, fun j hj => ?_⟩
              by_cases e : j = k
              · subst e; rw [← HC.out]; omega
              · exact HA.out j (by omega)
            case measure => simp [intOf]; omega
          · have ht := tak_last HA.out (by have := HN.out; omega) hlt2 (by rw [← HC.out]; omega)
            rw [← HC.out] at ht
            have e10 : ((k : Int) == 10) = false := by simp; omega
            have en : ((k : Int) == (n : Int)) = false := by simp; omega
            by_cases hf : fits c k = true
            · rw [if_pos hf] at ht
              have HT : Hid (tak zs = (lowL (zs.take (k + 1)), (k : Int) + 1, 0)) := ht
              clear ht
              have hmax : lowL (zs.take (k + 1)) ≤ 18446744073709551615 := lowL_fits (by have := HN.out; omega) hlt2 (by rw [← HC.out]; exact hf) (by rw [← HC.out]; omega)
              have hcase := fits_cases hf
              clear hf
              rcases hcase with hk0 | ⟨hk0, hc0, hk9⟩ | ⟨hk0, hc0, hk9, hc1⟩
              · have g1 : decide (0 < k) = false := by simp; omega
                have g1i : k ≤ 0 := by omega
                have g2 : ((k : Int) == 9) = false := by simp; omega
                clear hk0
                go_wp2
                (
                go_loop [6, 7] (fun v i => ∃ (j : Nat), j ≤ k + 1 ∧ i = .int .i64 ((j : Int) - 1) ∧ v = .int .u64 (lowL ((zs.take (k + 1)).drop j))) (fun _ i => (intOf i + 1).toNat)
                case atStart => exact ⟨k + 1, by omega, by go_num, by rw [List.drop_of_length_le (by simp; omega)]; rfl⟩
                case round =>
                  obtain ⟨j, hj, rfl, rfl⟩ := hrel
                  by_cases hj0 : 1 ≤ j
                  · obtain ⟨q, rfl⟩ : ∃ q, j = q + 1 := ⟨j - 1, by omega⟩
                    obtain ⟨d, hdd⟩ : ∃ d, d = zs[q]?.getD 0 := ⟨_, rfl⟩
                    have hqn : q < n := by omega
                    have hdx : w.cell? ⟨b, off + q, none⟩ = some (.int .u8 d) := by rw [hdd]; simpa using HCELL.out q hqn
                    have hdz : 0 ≤ d ∧ d ≤ 255 := by rw [hdd]; exact hb _ (mem_getD zs q (by have := HN.out; omega))
                    have hmask := mask127 hdz.1 hdz.2
                    have HST : Hid (lowL ((zs.take (k + 1)).drop q) = lowL ((zs.take (k + 1)).drop (q + 1)) * 128 + d % 128) := by
                      have := lowL_step (zs.take (k + 1)) q (by have := HN.out; simp; omega)
                      rw [hdd]
                      rw [show (zs.take (k + 1))[q]?.getD 0 = zs[q]?.getD 0 by rw [List.getElem?_take_of_lt (by omega)]] at this
                      exact this
                    have hlo := (lowL_bd ((zs.take (k + 1)).drop (q + 1))).1
                    have hup : lowL ((zs.take (k + 1)).drop (q + 1)) * 128 ≤ 18446744073709551615 := by
                      have h1 := lowL_drop (zs.take (k + 1)) q
                      have h2 := HST.out
                      omega
                    obtain ⟨X, hX⟩ : ∃ X, X = lowL ((zs.take (k + 1)).drop (q + 1)) := ⟨_, rfl⟩
                    have HX : Hid (X = lowL ((zs.take (k + 1)).drop (q + 1))) := hX
                    rw [← hX] at hlo hup ⊢
                    have HO : Hid (bits .or .u64 (X * 128) (d % 128) = lowL ((zs.take (k + 1)).drop q)) := by
                      rw [HST.out, ← HX.out]; exact or7 hlo hup (by omega) (by omega)
                    clear hX hdd hj0
                    go_wp2
                    go_round
                    case rel => exact ⟨q, by omega, by go_num, by rw [HO.out]⟩
                    case measure => simp [intOf]
                  · obtain rfl : j = 0 := by omega
                    go_wp2
                    go_ret3
                    exact ⟨by rw [HT.out]; rfl, rfl⟩)
              · have g1 : decide (0 < k) = true := by simp; omega
                have g1i : 0 < k := by omega
                have g2 : ((k : Int) == 9) = false := by simp; omega
                have g3 : (c == 0) = false := by simp; omega
                clear hk9 hc0
                go_wp2
                (
                go_loop [6, 7] (fun v i => ∃ (j : Nat), j ≤ k + 1 ∧ i = .int .i64 ((j : Int) - 1) ∧ v = .int .u64 (lowL ((zs.take (k + 1)).drop j))) (fun _ i => (intOf i + 1).toNat)
                case atStart => exact ⟨k + 1, by omega, by go_num, by rw [List.drop_of_length_le (by simp; omega)]; rfl⟩
                case round =>
                  obtain ⟨j, hj, rfl, rfl⟩ := hrel
                  by_cases hj0 : 1 ≤ j
                  · obtain ⟨q, rfl⟩ : ∃ q, j = q + 1 := ⟨j - 1, by omega⟩
                    obtain ⟨d, hdd⟩ : ∃ d, d = zs[q]?.getD 0 := ⟨_, rfl⟩
                    have hqn : q < n := by omega
                    have hdx : w.cell? ⟨b, off + q, none⟩ = some (.int .u8 d) := by rw [hdd]; simpa using HCELL.out q hqn
                    have hdz : 0 ≤ d ∧ d ≤ 255 := by rw [hdd]; exact hb _ (mem_getD zs q (by have := HN.out; omega))
                    have hmask := mask127 hdz.1 hdz.2
                    have HST : Hid (lowL ((zs.take (k + 1)).drop q) = lowL ((zs.take (k + 1)).drop (q + 1)) * 128 + d % 128) := by
                      have := lowL_step (zs.take (k + 1)) q (by have := HN.out; simp; omega)
                      rw [hdd]
                      rw [show (zs.take (k + 1))[q]?.getD 0 = zs[q]?.getD 0 by rw [List.getElem?_take_of_lt (by omega)]] at this
                      exact this
                    have hlo := (lowL_bd ((zs.take (k + 1)).drop (q + 1))).1
                    have hup : lowL ((zs.take (k + 1)).drop (q + 1)) * 128 ≤ 18446744073709551615 := by
                      have h1 := lowL_drop (zs.take (k + 1)) q
                      have h2 := HST.out
                      omega
                    obtain ⟨X, hX⟩ : ∃ X, X = lowL ((zs.take (k + 1)).drop (q + 1)) := ⟨_, rfl⟩
                    have HX : Hid (X = lowL ((zs.take (k + 1)).drop (q + 1))) := hX
                    rw [← hX] at hlo hup ⊢
                    have HO : Hid (bits .or .u64 (X * 128) (d % 128) = lowL ((zs.take (k + 1)).drop q)) := by
                      rw [HST.out, ← HX.out]; exact or7 hlo hup (by omega) (by omega)
                    clear hX hdd hj0
                    go_wp2
                    go_round
                    case rel => exact ⟨q, by omega, by go_num, by rw [HO.out]⟩
                    case measure => simp [intOf]
                  · obtain rfl : j = 0 := by omega
                    go_wp2
                    go_ret3
                    exact ⟨by rw [HT.out]; rfl, rfl⟩)
              · have g1 : decide (0 < k) = true := by simp; omega
                have g1i : 0 < k := by omega
                have g2 : ((k : Int) == 9) = true := by simp; omega
                have g3 : (c == 0) = false := by simp; omega
                clear hk9 hc0
                go_wp2
                (
                go_loop [6, 7] (fun v i => ∃ (j : Nat), j ≤ k + 1 ∧ i = .int .i64 ((j : Int) - 1) ∧ v = .int .u64 (lowL ((zs.take (k + 1)).drop j))) (fun _ i => (intOf i + 1).toNat)
                case atStart => exact ⟨k + 1, by omega, by go_num, by rw [List.drop_of_length_le (by simp; omega)]; rfl⟩
                case round =>
                  obtain ⟨j, hj, rfl, rfl⟩ := hrel
                  by_cases hj0 : 1 ≤ j
                  · obtain ⟨q, rfl⟩ : ∃ q, j = q + 1 := ⟨j - 1, by omega⟩
                    obtain ⟨d, hdd⟩ : ∃ d, d = zs[q]?.getD 0 := ⟨_, rfl⟩
                    have hqn : q < n := by omega
                    have hdx : w.cell? ⟨b, off + q, none⟩ = some (.int .u8 d) := by rw [hdd]; simpa using HCELL.out q hqn
                    have hdz : 0 ≤ d ∧ d ≤ 255 := by rw [hdd]; exact hb _ (mem_getD zs q (by have := HN.out; omega))
                    have hmask := mask127 hdz.1 hdz.2
                    have HST : Hid (lowL ((zs.take (k + 1)).drop q) = lowL ((zs.take (k + 1)).drop (q + 1)) * 128 + d % 128) := by
                      have := lowL_step (zs.take (k + 1)) q (by have := HN.out; simp; omega)
                      rw [hdd]
                      rw [show (zs.take (k + 1))[q]?.getD 0 = zs[q]?.getD 0 by rw [List.getElem?_take_of_lt (by omega)]] at this
                      exact this
                    have hlo := (lowL_bd ((zs.take (k + 1)).drop (q + 1))).1
                    have hup : lowL ((zs.take (k + 1)).drop (q + 1)) * 128 ≤ 18446744073709551615 := by
                      have h1 := lowL_drop (zs.take (k + 1)) q
                      have h2 := HST.out
                      omega
                    obtain ⟨X, hX⟩ : ∃ X, X = lowL ((zs.take (k + 1)).drop (q + 1)) := ⟨_, rfl⟩
                    have HX : Hid (X = lowL ((zs.take (k + 1)).drop (q + 1))) := hX
                    rw [← hX] at hlo hup ⊢
                    have HO : Hid (bits .or .u64 (X * 128) (d % 128) = lowL ((zs.take (k + 1)).drop q)) := by
                      rw [HST.out, ← HX.out]; exact or7 hlo hup (by omega) (by omega)
                    clear hX hdd hj0
                    go_wp2
                    go_round
                    case rel => exact ⟨q, by omega, by go_num, by rw [HO.out]⟩
                    case measure => simp [intOf]
                  · obtain rfl : j = 0 := by omega
                    go_wp2
                    go_ret3
                    exact ⟨by rw [HT.out]; rfl, rfl⟩)
            · rw [if_neg hf] at ht
              have HT : Hid (tak zs = (0, 0, 21)) := ht
              clear ht
              have hcase := fits_not hf
              clear hf
              rcases hcase with ⟨hk0, hc0⟩ | ⟨hk9, hc1, hc0⟩
              · have g1 : decide (0 < k) = true := by simp; omega
                have g1i : 0 < k := by omega
                have g3 : (c == 0) = true := by simp; omega
                clear hc0
                go_wp2
                go_ret3
                exact ⟨by rw [HT.out]; rfl, rfl⟩
              · have g1 : decide (0 < k) = true := by simp; omega
                have g1i : 0 < k := by omega
                have g2 : ((k : Int) == 9) = true := by simp; omega
                have g3 : (c == 0) = false := by simp; omega
                clear hk9
                go_wp2
                go_ret3
                exact ⟨by rw [HT.out]; rfl, rfl⟩
        · have hk10 : k = 10 := by omega
          subst hk10
          have ht := tak_ten (zs := zs) HA.out (by omega)
          have HT : Hid (tak zs = (0, 0, 21)) := ht
          clear ht hn hcell
          go_wp2
          go_ret3
          exact ⟨by rw [HT.out]; rfl, rfl⟩
      · have g0 : decide ((k : Int) < (n : Int)) = false := by simp; omega
        by_cases h10 : k = 10
        · subst h10
          have ht := tak_ten (zs := zs) HA.out (by omega)
          have HT : Hid (tak zs = (0, 0, 21)) := ht
          clear ht hn hcell
          go_wp2
          go_ret3
          exact ⟨by rw [HT.out]; rfl, rfl⟩
        · have ht := tak_short (zs := zs) (k := k) HA.out (by omega) (by omega)
          have HT : Hid (tak zs = (0, 0, 20)) := ht
          have e10 : ((k : Int) == 10) = false := by simp; omega
          have en : ((k : Int) == (n : Int)) = true := by simp; omega
          clear ht hn hcell
          go_wp2
          go_ret3
          exact ⟨by rw [HT.out]; rfl, rfl⟩

end Go.Proofs.YtdikjodgendgdaaGreatDoor
namespace Go.Proofs.YtdikjodgendgdaaGreatDoor
open Go.RowKit NumMath
set_option maxRecDepth 100000
set_option linter.unusedVariables false
set_option linter.unusedSimpArgs false

theorem byte_and {V : Int} (h0 : 0 ≤ V) (h1 : V ≤ 18446744073709551615) : bits .and .u64 V 127 = V % 128 := by
  rw [u64_and V 127 (by omega) (by omega) (by omega) (by omega)]
  rw [show (127 : Int).toNat = 127 from rfl, and127]
  omega

set_option maxHeartbeats 800000 in
theorem refPut_any (a al : Option Addr) (zs ls : List Int) (cap capl : Nat) (w : World) (hr : Row .u8 w a zs) (hc : zs.length ≤ cap) (hm : cap ≤ maxLen) (hnil : a = none → cap = 0)
    (hl : Row .u64 w al ls) (hlb : ∀ c ∈ ls, 0 ≤ c ∧ c ≤ 18446744073709551615) (hlc : ls.length ≤ capl) (hlm : capl ≤ maxLen) (hsz : zs.length + 10 * ls.length ≤ 140737488355328) :
    Calls Tryz.prog 29 #[.slice a zs.length cap, .slice al ls.length capl] w fun e w' => ∃ v, e = .returned v ∧
      w'.ownsRow w.heap.size 5 1 v (zs ++ ls.flatMap D).length ((zs ++ ls.flatMap D).map (Value.int .u8)) ∧ Below w.heap.size w w' := by
  obtain ⟨i0, hi, hz0, hz1, hz2⟩ := info_parts Tryz.info5
  unfold maxLen at hm hlm
  have hnil' : a = none → zs.length = 0 ∧ cap = 0 := fun h => by have := hnil h; omega
  rcases hl with rfl | ⟨b, off, rfl, hcell⟩
  · rw [List.flatMap_nil, List.append_nil]
    obtain ⟨m, hmz⟩ : ∃ m, m = zs.length := ⟨_, rfl⟩
    rw [← hmz] at hc hsz hnil' ⊢
    simp only [List.length_nil] at hsz ⊢
    have HM : Hid (m = zs.length) := hmz
    have HNL : Hid (a = none → m = 0 ∧ cap = 0) := hnil'
    clear hmz hnil hnil'
    go_enter Tryz.func29, Tryz.ntmps29
    go_wp2_with (at_builtin; refine wpList_append_own_any rfl _ (.tmp 8) 48 rfl w.heap.size 5 i0 (.int .u8 0) 1 1 Tryz.underlying48 hi hz0 hz1 hz2 rfl (by decide) (.slice none 0 0) 0 [] rfl (World.ownsRow_nil _ _ _ _) a m cap (zs.map (Value.int .u8)) rfl (by rw [List.length_map, Nat.mul_one]; exact HM.out.symm) HNL.out hr.news (ints_oneCell _ _) (by unfold maxLen; omega) (by omega) (Nat.le_refl _) ?_; intro v1 w1 hown1 hgrow1)
    refine wp_loop_rounds 1 ?_
    rw [rounds_succ]
    have hb1 : Below w.heap.size w w1 := (Below.refl _ _).grown hgrow1 (Nat.le_refl _) (fun k hk => by simp [Value.ownBlock] at hk)
    simp only [Nat.zero_add, List.nil_append] at hown1
    clear hgrow1
    go_wp2
    go_ret
    exact ⟨v1, rfl, hown1, hb1⟩
  · obtain ⟨n, hn⟩ : ∃ n, n = ls.length := ⟨_, rfl⟩
    obtain ⟨m, hmz⟩ : ∃ m, m = zs.length := ⟨_, rfl⟩
    rw [← F_all, ← hn, ← hmz]
    rw [← hmz] at hnil'
    have HN : Hid (n = ls.length) := hn
    have HM : Hid (m = zs.length) := hmz
    have HNL : Hid (a = none → m = 0 ∧ cap = 0) := hnil'
    rw [← hn] at hcell
    have hsz2 : m + 10 * n ≤ 140737488355328 := by omega
    have hmc : m ≤ cap := by omega
    have hnc : n ≤ capl := by omega
    have HCELL : Hid (∀ i, i < n → w.cell? ⟨b, off + i, none⟩ = some (.int .u64 (ls.getD i 0))) := hcell
    clear hn hmz hsz hc hlc hcell hnil hnil'
    go_enter Tryz.func29, Tryz.ntmps29
    go_wp2_with (at_builtin; refine wpList_append_own_any rfl _ (.tmp 8) 48 rfl w.heap.size 5 i0 (.int .u8 0) 1 1 Tryz.underlying48 hi hz0 hz1 hz2 rfl (by decide) (.slice none 0 0) 0 [] rfl (World.ownsRow_nil _ _ _ _) a m cap (zs.map (Value.int .u8)) rfl (by rw [List.length_map, Nat.mul_one]; exact HM.out.symm) HNL.out hr.news (ints_oneCell _ _) (by unfold maxLen; omega) (by omega) (Nat.le_refl _) ?_; intro v1 w1 hown1 hgrow1)
    have hb1 : Below w.heap.size w w1 := (Below.refl _ _).grown hgrow1 (Nat.le_refl _) (fun k hk => by simp [Value.ownBlock] at hk)
    simp only [Nat.zero_add, List.nil_append] at hown1
    clear hgrow1 hr
    go_loopw [5, 6] (fun out i wr => ∃ (q : Nat) (P : List Int), q ≤ n ∧ i = .int .i64 q ∧ P = F zs ls q ∧
        wr.ownsRow w.heap.size 5 1 out P.length (P.map (Value.int .u8)) ∧ Below w.heap.size w wr) (fun _ i _ => n - (intOf i).toNat)
    case atStart => exact ⟨0, zs, by omega, rfl, (F_zero zs ls).symm, by rw [← HM.out]; exact hown1, hb1⟩
    case round =>
      obtain ⟨q, P, hq, rfl, hP, hown, hnx⟩ := hrel
      have HP : Hid (P = F zs ls q) := hP
      clear hP hown1 hb1
      by_cases hlt2 : q < n
      · obtain ⟨V, hV⟩ : ∃ V, V = ls[q]?.getD 0 := ⟨_, rfl⟩
        have hcx0 : w.cell? ⟨b, off + q, none⟩ = some (.int .u64 V) := by rw [hV]; simpa using HCELL.out q hlt2
        have hcx : wr.cell? ⟨b, off + q, none⟩ = some (.int .u64 V) := (hnx.cell (World.block_lt_of_cell? w _ hcx0)).trans hcx0
        have hVb : 0 ≤ V ∧ V ≤ 18446744073709551615 := by rw [hV]; exact hlb _ (mem_getD ls q (by have := HN.out; omega))
        have HF : Hid (F zs ls (q + 1) = F zs ls q ++ D V) := by rw [hV]; exact F_succ zs ls q (by have := HN.out; omega)
        have HFT : Hid ((F zs ls (q + 1)).length ≤ 140737488355328) := by
          have := F_le zs ls (q + 1)
          rw [← HM.out] at this
          show (F zs ls (q + 1)).length ≤ 140737488355328
          omega
        clear hV hcx0
        go_wp2
        go_loopw [5, 7] (fun out v wi => ∃ (U : Int) (R : List Int), 0 ≤ U ∧ U ≤ 18446744073709551615 ∧ v = .int .u64 U ∧ R ++ D U = F zs ls (q + 1) ∧
          wi.ownsRow w.heap.size 5 1 out R.length (R.map (Value.int .u8)) ∧ Below w.heap.size w wi) (fun _ v _ => (intOf v).toNat)
        case atStart => exact ⟨V, P, hVb.1, hVb.2, rfl, by rw [HF.out, HP.out], hown, hnx⟩
        case round =>
          obtain ⟨U, R, hU0, hU1, rfl, hR, hownR, hnxR⟩ := hrel
          have hRl : R.length + (D U).length = (F zs ls (q + 1)).length := by rw [← hR]; simp
          have hDU := D_len U
          have hroom : R.length + 1 ≤ 140737488355328 := by have := HFT.out; omega
          have HR : Hid (R ++ D U = F zs ls (q + 1)) := hR
          have hsz3 := hnxR.size
          clear hR hRl hown hnx hcx
          by_cases hge : 127 < U
          · have hbyte := byte_and hU0 hU1
            go_wp2_with (at_builtin; refine wpList_append_own _ rfl (.tmp 22) (.tmp 27) 48 rfl w.heap.size 5 i0 (.int .u8 0) 1 1 Tryz.underlying48 hi hz0 hz1 hz2 rfl (by decide) _ R.length _ rfl (hownR.alloc _) ⟨wr.heap.size, 0, none⟩ 1 1 [.int .u8 (U % 128 + 128)] rfl rfl (one_new _ _ _) (one_cell _ _) (by unfold maxLen; omega) (by omega) (by simp; omega) ?_; intro v2 w2 hown2 hgrow2 _)
            have hb2 : Below w.heap.size w w2 := (hnxR.alloc hnxR.size _).grown hgrow2 (by simp; omega) (own_ge hownR)
            clear hgrow2 hownR hbyte
            go_roundw
            case rel => exact ⟨U / 128, R ++ [U % 128 + 128], by omega, by omega, rfl, by rw [← HR.out, D_step hU0 hU1 (by omega)]; simp, by simpa using hown2, hb2⟩
            case measure => simp [intOf]; omega
          · go_wp2_with (at_builtin; refine wpList_append_own _ rfl (.tmp 31) (.tmp 34) 48 rfl w.heap.size 5 i0 (.int .u8 0) 1 1 Tryz.underlying48 hi hz0 hz1 hz2 rfl (by decide) _ R.length _ rfl (hownR.alloc _) ⟨wr.heap.size, 0, none⟩ 1 1 [.int .u8 U] rfl rfl (one_new _ _ _) (one_cell _ _) (by unfold maxLen; omega) (by omega) (by simp; omega) ?_; intro v2 w2 hown2 hgrow2 _)
            have hb2 : Below w.heap.size w w2 := (hnxR.alloc hnxR.size _).grown hgrow2 (by simp; omega) (own_ge hownR)
            clear hgrow2 hownR
            go_roundw
            case rel => exact ⟨q + 1, R ++ [U], by omega, by go_num, by rw [← HR.out, D_small (by omega)], by simpa using hown2, hb2⟩
            case measure => simp [intOf]; omega
      · have hqn : q = n := by omega
        have HPE : Hid (P = F zs ls n) := by show P = _; rw [HP.out, hqn]
        clear hqn
        go_wp2
        go_ret
        rw [HPE.out] at hown
        exact ⟨_, rfl, hown, hnx⟩

end Go.Proofs.YtdikjodgendgdaaGreatDoor
namespace Go.Proofs.YtdikjodgendgdaaGreatDoor
open Go.RowKit NumMath
open EntMath (E takeT)
set_option maxRecDepth 100000
set_option linter.unusedVariables false
set_option linter.unusedSimpArgs false

theorem slice_mid {b off L cap n p : Nat} (h1 : n ≤ p) (h2 : p ≤ cap) (w : World) : (Instr.sliceAt 48 (.slice (some ⟨b, off, none⟩) L cap) (some (.int .i64 (n : Int))) (some (.int .i64 (p : Int))) none).run Tryz.prog w = .ok (.slice (if cap = n then some ⟨b, off, none⟩ else some ⟨b, off + n, none⟩) (p - n) (cap - n)) w := by
  have h3 : (n : Int) ≤ (p : Int) := by omega
  have h4 : (p : Int) ≤ (cap : Int) := by omega
  go_simp

set_option maxHeartbeats 16000000 in
theorem refTakeText_any (a : Option Addr) (zs : List Int) (cap : Nat) (w : World) (hR : Rest w a zs cap) (hb : ∀ c ∈ zs, 0 ≤ c ∧ c ≤ 255) :
    Calls Tryz.prog 76 #[.slice a zs.length cap] w fun r w' => w' = w ∧
      (((takeT zs).2.2 = 0 ∧ ∃ m : Nat, r = .returned (.tuple #[.string (strN (takeT zs).1), .int .i64 (m : Int), .int .i64 0]) ∧ 0 < m ∧ m ≤ zs.length ∧ zs.drop m = (takeT zs).2.1) ∨
      (takeT zs = ([], [], 20) ∧ r = .returned (.tuple #[.string ⟨#[]⟩, .int .i64 0, .int .i64 20])) ∨ (takeT zs = ([], [], 21) ∧ r = .returned (.tuple #[.string ⟨#[]⟩, .int .i64 0, .int .i64 21]))) := by
  have hT := refTake_any a zs cap w hR.row hb hR.len hR.lim
  rcases tak_cases zs hb with h | h | ⟨k, v, hk, hkl, hv0, hv1, h, hD⟩
  · have HQ : Hid (takeT zs = ([], [], 20)) := by show _ = _; unfold takeT; rw [h]; rfl
    rw [h] at hT
    unfold takV at hT
    have HT : Hid _ := hT
    clear hT h hR
    go_enter Tryz.func76, Tryz.ntmps76
    go_wp2_with fail
    refine Calls.mono HT.out ?_
    rintro r w1 ⟨rfl, rfl⟩
    go_wp2
    go_ret3
    exact ⟨rfl, .inr (.inl ⟨HQ.out, rfl⟩)⟩
  · have HQ : Hid (takeT zs = ([], [], 21)) := by show _ = _; unfold takeT; rw [h]; rfl
    rw [h] at hT
    unfold takV at hT
    have HT : Hid _ := hT
    clear hT h hR
    go_enter Tryz.func76, Tryz.ntmps76
    go_wp2_with fail
    refine Calls.mono HT.out ?_
    rintro r w1 ⟨rfl, rfl⟩
    go_wp2
    go_ret3
    exact ⟨rfl, .inr (.inr ⟨HQ.out, rfl⟩)⟩
  · obtain ⟨n, hn⟩ : ∃ n, n = k + 1 := ⟨_, rfl⟩
    obtain ⟨m, hm⟩ : ∃ m : Nat, v = (m : Int) := ⟨v.toNat, by omega⟩
    subst hm
    rw [show (k : Int) + 1 = (n : Int) by omega] at h
    rw [← hn] at hkl hD
    have hnz : zs ≠ [] := by intro e; rw [e] at hkl; simp at hkl; omega
    obtain ⟨b, off, ha, hcell⟩ := hR.row.resolve_left hnz
    subst ha
    have hlen := hR.len
    have hcap := hR.lim
    have hmc : (cap : Int) ≤ 9223372036854775807 := by unfold maxLen at hcap; omega
    obtain ⟨L, hL⟩ : ∃ L, L = zs.length := ⟨_, rfl⟩
    obtain ⟨rl, hrl⟩ : ∃ rl, rl = (zs.drop n).length := ⟨_, rfl⟩
    have hrlL : rl = L - n := by rw [hrl, hL]; simp
    have hLn : ((L : Int) - (n : Int)) = (rl : Int) := by omega
    have hwr : IntKind.u64.wrap (rl : Int) = (rl : Int) := by rw [IntKind.wrap_u64]; omega
    rw [h] at hT
    unfold takV at hT
    rw [← hL] at hT hlen hkl ⊢
    have HT : Hid _ := hT
    have hnc : (n : Int) ≤ (cap : Int) := by omega
    have hw64 : (m : Int) ≤ 18446744073709551615 := hv1
    by_cases hbig : rl < m
    · have HQ : Hid (takeT zs = ([], [], 20)) := by
        show _ = _; unfold takeT; rw [h]; simp only [Int.toNat_natCast]
        rw [if_neg (by simp), ← hrl, if_pos (by omega)]
      have hbig2 : (rl : Int) < (m : Int) := by omega
      clear hT h hR hD hcell hnz hL hrl hn hrlL
      go_enter Tryz.func76, Tryz.ntmps76
      go_wp2_with fail
      refine Calls.mono HT.out ?_
      rintro r w1 ⟨rfl, rfl⟩
      go_wp2
      go_ret3
      exact ⟨rfl, .inr (.inl ⟨HQ.out, rfl⟩)⟩
    · have HQ : Hid (takeT zs = (EntMath.nI ((zs.drop n).take m), (zs.drop n).drop m, 0)) := by
        show _ = _; unfold takeT; rw [h]; simp only [Int.toNat_natCast]
        rw [if_neg (by simp), ← hrl, if_neg (by omega)]
      have hbig2 : (m : Int) ≤ (rl : Int) := by omega
      have hw1 : IntKind.i64.wrap (m : Int) = (m : Int) := by rw [IntKind.wrap_i64]; omega
      obtain ⟨p, hp⟩ : ∃ p, p = n + m := ⟨_, rfl⟩
      have hpn : (n : Int) + (m : Int) = (p : Int) := by omega
      have hpn2 : (n : Int) ≤ (p : Int) := by omega
      have hpL : (p : Int) ≤ (L : Int) := by omega
      have hpc : (p : Int) ≤ (cap : Int) := by omega
      have hsub : ∀ c ∈ (zs.drop n).take m, 0 ≤ c ∧ c ≤ 255 := fun c hc => hb c (List.mem_of_mem_drop (List.mem_of_mem_take hc))
      have htl : ((zs.drop n).take m).length = m := by rw [List.length_take]; omega
      have HRt : Hid (∀ ao : Option Addr, (¬ cap = n → ao = some ⟨b, off + n, none⟩) → Row .u8 w ao (zs.drop n)) := by
        intro ao h
        have h2 : Row .u8 w (some ⟨b, off, none⟩) (zs.take n ++ zs.drop n) := by rw [List.take_append_drop]; exact hR.row
        exact Row.rest h2 (m := n) (c := cap) (by rw [List.length_take]; omega) (by rw [List.take_append_drop]; omega) h
      have HCV : Hid (∀ (ao : Option Addr), (¬ cap = n → ao = some ⟨b, off + n, none⟩) → (convert 48 9 (.slice ao m (cap - n))).run Tryz.prog w = .ok (.string (strN (EntMath.nI ((zs.drop n).take m)))) w) := by
        intro ao h
        have := row_string (cap := cap - n) ((HRt.out ao h).take m)
        rw [htl, strN_nI hsub] at this
        exact this
      have hsl : (Instr.sliceAt 48 (.slice (some ⟨b, off, none⟩) L cap) (some (.int .i64 (n : Int))) (some (.int .i64 (p : Int))) none).run Tryz.prog w = .ok (.slice (if cap = n then some ⟨b, off, none⟩ else some ⟨b, off + n, none⟩) m (cap - n)) w := by
        have hpm : p - n = m := by omega
        have := slice_mid (b := b) (off := off) (L := L) (cap := cap) (n := n) (p := p) (by omega) (by omega) w
        rw [hpm] at this
        exact this
      have hcv := HCV.out (if cap = n then some ⟨b, off, none⟩ else some ⟨b, off + n, none⟩) (fun h => by rw [if_neg h])
      have HDr : Hid (zs.drop p = (zs.drop n).drop m ∧ 0 < p ∧ p ≤ L) := ⟨by rw [List.drop_drop, hp], by omega, by omega⟩
      generalize (if cap = n then (some ⟨b, off, none⟩ : Option Addr) else some ⟨b, off + n, none⟩) = ao at *
      clear hT h hR hD hcell hnz hL hn hrlL hrl hp hsub htl HCV HRt
      go_enter Tryz.func76, Tryz.ntmps76
      go_wp2_with fail
      refine Calls.mono HT.out ?_
      rintro r w1 ⟨rfl, rfl⟩
      go_wp2
      go_ret3
      refine ⟨rfl, .inl ⟨by rw [HQ.out], p, ?_, HDr.out.2.1, HDr.out.2.2, by rw [HQ.out]; exact HDr.out.1⟩⟩
      rw [HQ.out]; rfl
end Go.Proofs.YtdikjodgendgdaaGreatDoor

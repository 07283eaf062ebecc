/-
  Walk of newsreellaw3.ShaSums.
-/
import Derived.Test.YtfgpoclflikhmaaDoorL3Lengths
namespace Go.Proofs.YtfgpoclflikhmaaDoor
open Go.RowKit NumMath
set_option maxRecDepth 100000
set_option linter.unusedVariables false
set_option linter.unusedSimpArgs false
attribute [-simp] Tryd.isAgg49 Tryd.zeroValue49 Tryd.isAgg26 Tryd.zeroValue26 Tryd.isAgg51

/-- The lengths, each cut at 2000, of the first k. -/
def cutSum (ps : List Part) (k : Nat) : Nat := ((ps.take k).map fun p => min p.zs.length 2000).sum
theorem cutSum_step (ps : List Part) (k : Nat) (h : k < ps.length) : cutSum ps (k + 1) = cutSum ps k + min (ps[k]?.getD noPart).zs.length 2000 := by
  unfold cutSum
  rw [List.take_succ_eq_append_getElem h, List.map_append, List.sum_append, show ps[k]?.getD noPart = ps[k] by simp [h]]
  simp only [List.map_cons, List.map_nil, List.sum_cons, List.sum_nil, Nat.add_zero]
theorem cutSum_small : ∀ ps : List Part, (ps.map fun p => min p.zs.length 2000).sum ≤ 1000 → (allB ps).length ≤ 1000
  | [], _ => by simp [allB]
  | p :: ps, h => by
    simp only [List.map_cons, List.sum_cons] at h
    have ih := cutSum_small ps (by omega)
    unfold allB at ih ⊢
    rw [List.flatMap_cons, List.length_append]
    have : (ps.map fun p => min p.zs.length 2000).sum ≤ 1000 := by omega
    have hp : min p.zs.length 2000 = p.zs.length := by omega
    suffices H : ∀ qs : List Part, (qs.map fun p => min p.zs.length 2000).sum ≤ 1000 → (qs.flatMap Part.zs).length = (qs.map fun p => min p.zs.length 2000).sum by
      rw [H ps (by omega)]; omega
    intro qs
    induction qs with
    | nil => intro _; rfl
    | cons q qs ihq =>
      intro hq
      simp only [List.map_cons, List.sum_cons] at hq ⊢
      rw [List.flatMap_cons, List.length_append, ihq (by omega)]
      omega

set_option maxHeartbeats 4000000 in
theorem shaSums_walk (a : Option Addr) (ps : List Part) (cap : Nat) (W : World) (ht : Tabs3 W) (hr : Parts W a ps) (hc : ps.length ≤ cap) (hm : cap ≤ maxLen) (hq : ∀ p ∈ ps, p.a = none → p.cap = 0) :
    Calls Tryd.prog 3 #[.slice a ps.length cap] W fun e W' => e = .returned (.bool true) ∧ Below W.heap.size W W' := by
  have HMX : Hid (cap ≤ maxLen) := hm
  unfold maxLen at hm
  obtain ⟨n, hn⟩ : ∃ n, n = ps.length := ⟨_, rfl⟩
  have HC : Hid (ps.length ≤ cap) := hc
  rw [← hn] at hc ⊢
  have HN : Hid _ := hn
  have HT : Hid _ := ht
  have HR : Hid _ := hr
  have HQ : Hid _ := hq
  have htl := ht.1.lt
  clear hn ht hr hq
  go_enter Tryd.func3, Tryd.ntmps3
  go_wp2_with fail
  refine Calls.mono (known3_any W HT.out.1) ?_
  rintro e w1 ⟨rfl, hB1⟩
  have HB1 : Hid _ := hB1
  clear hB1
  have HAT : Hid (∀ j, j < n → ∃ b off, a = some ⟨b, off, none⟩ ∧ w1.cell? ⟨b, off + j, none⟩ = some (ps[j]?.getD noPart).val ∧ (ps[j]?.getD noPart).ok w1) := by
    intro j hj
    have hr' : Parts w1 a ps := Parts.later HR.out HB1.out
    have hn := HN.out
    rcases hr'.1 with h | ⟨b, off, ha, hcell⟩
    · rw [h] at hn; simp at hn; omega
    · exact ⟨b, off, ha, hcell j (by omega), hr'.2 _ (part_mem ps j (by omega))⟩
  go_wp2_with fail
  go_loop [3, 4] (fun x i => ∃ k s : Nat, k ≤ n ∧ i = .int .i64 k ∧ s = cutSum ps k ∧ s ≤ 3000 ∧ x = .int .i64 (s : Int)) (fun _ i => n - (intOf i).toNat)
  case atStart => exact ⟨0, 0, by omega, rfl, by simp [cutSum], by omega, rfl⟩
  case round =>
    obtain ⟨k, s, hk, rfl, hs, hs3, rfl⟩ := hrel
    have HS : Hid _ := hs
    clear hs
    by_cases hlt : k < n
    · by_cases hs1 : s ≤ 1000
      · obtain ⟨b, off, hal, hcl, hok⟩ := HAT.out k hlt
        obtain ⟨p, hp⟩ : ∃ p, p = ps[k]?.getD noPart := ⟨_, rfl⟩
        have HST : Hid (cutSum ps (k + 1) = s + min p.zs.length 2000) := by show _ = _; rw [hp, HS.out]; exact cutSum_step ps k (by have := HN.out; omega)
        rw [← hp] at hcl hok
        unfold Part.val at hcl
        have hpc := hok.2.2.1
        have hpm := hok.2.2.2
        unfold maxLen at hpm
        subst hal
        have hd : decide ((k : Int) < (n : Int)) = true := by simp; omega
        have hsI : (s : Int) ≤ 1000 := by omega
        clear hp hok
        generalize p.zs.length = pl at *
        generalize p.a = pa at *
        generalize p.cap = pc at *
        by_cases h2 : pl ≤ 2000
        · have h2I : (pl : Int) ≤ 2000 := by omega
          have HMN : Hid (min pl 2000 = pl) := by show _ = _; omega
          go_wp2
          go_round
          case rel => exact ⟨k + 1, s + pl, by omega, by go_num, by rw [HST.out, HMN.out], by omega, by go_num⟩
          case measure => simp [intOf]; omega
        · have h2I : ¬ (pl : Int) ≤ 2000 := by omega
          have h2J : (2000 : Int) < (pl : Int) := by omega
          have HMN : Hid (min pl 2000 = 2000) := by show _ = _; omega
          go_wp2
          go_round
          case rel => exact ⟨k + 1, s + 2000, by omega, by go_num, by rw [HST.out, HMN.out], by omega, by go_num⟩
          case measure => simp [intOf]; omega
      · have hd : decide ((k : Int) < (n : Int)) = true := by simp; omega
        have hsI : ¬ (s : Int) ≤ 1000 := by omega
        have hsJ : (1000 : Int) < (s : Int) := by omega
        go_wp2
        go_ret
        exact ⟨rfl, HB1.out⟩
    · have hkn : k = n := by omega
      subst hkn
      have hd : decide ((k : Int) < (k : Int)) = false := by simp
      by_cases hs1 : s ≤ 1000
      · by_cases h100 : k ≤ 100
        · have hsI : (s : Int) ≤ 1000 := by omega
          have hsJ : ¬ (1000 : Int) < (s : Int) := by omega
          have hkI : (k : Int) ≤ 100 := by omega
          have hkJ : ¬ (100 : Int) < (k : Int) := by omega
          have hlen : (allB ps).length ≤ 1000 := by
            refine cutSum_small ps ?_
            have := HS.out
            unfold cutSum at this
            rw [List.take_of_length_le (by have := HN.out; omega)] at this
            omega
          have hr1 : Parts w1 a ps := Parts.later HR.out HB1.out
          have hsm := shaSum_any a ps cap w1 (HT.out.1.later HB1.out htl) hr1 HC.out HMX.out (by omega)
          have hdg : ∀ w2, Below w1.heap.size w1 w2 → Calls Tryd.prog 10 #[.slice a ps.length cap] w2 fun e w3 => e = .returned (.agg (u8v (ShaMath.digest (nats (allB ps)))).toArray) ∧ Below w2.heap.size w2 w3 := fun w2 h =>
            digest_any a ps cap w2 (RefTab.later HT.out.2 (HB1.out.trans (h.mono HB1.out.size)) htl) (by have := HB1.out.size; have := h.size; omega) (hr1.later h) HQ.out HC.out HMX.out (by omega)
          rw [← HN.out] at hsm hdg
          have heq := eq_same _ (digest_len (nats (allB ps)))
          have HSM : Hid _ := hsm
          have HDG : Hid _ := hdg
          generalize u8v (ShaMath.digest (nats (allB ps))) = D at *
          clear hsm hdg hr1 hlen
          go_wp2_with fail
          refine Calls.mono HSM.out ?_
          rintro e w2 ⟨rfl, hB2⟩
          go_wp2_with fail
          refine Calls.mono (HDG.out _ hB2) ?_
          rintro e w3 ⟨rfl, hB3⟩
          go_wp2
          go_ret
          exact ⟨rfl, HB1.out.trans ((hB2.trans (hB3.mono hB2.size)).mono HB1.out.size)⟩
        · have hsI : (s : Int) ≤ 1000 := by omega
          have hsJ : ¬ (1000 : Int) < (s : Int) := by omega
          have hkI : ¬ (k : Int) ≤ 100 := by omega
          have hkJ : (100 : Int) < (k : Int) := by omega
          go_wp2
          go_ret
          exact ⟨rfl, HB1.out⟩
      · have hsI : ¬ (s : Int) ≤ 1000 := by omega
        have hsJ : (1000 : Int) < (s : Int) := by omega
        go_wp2
        go_ret
        exact ⟨rfl, HB1.out⟩

end Go.Proofs.YtfgpoclflikhmaaDoor

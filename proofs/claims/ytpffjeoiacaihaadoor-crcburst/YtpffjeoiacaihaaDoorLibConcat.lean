/-
  Walk of slices.Concat of slices of bytes: all of them, one behind another, in memory of its own.
-/
import Derived.Test.YtpffjeoiacaihaaDoorCrcKit
import Derived.Test.YtpffjeoiacaihaaDoorLibGrow
namespace Go.Proofs.YtpffjeoiacaihaaDoor
open Go.RowKit NumMath
set_option maxRecDepth 100000
set_option linter.unusedVariables false
set_option linter.unusedSimpArgs false

theorem allB_take_len (ps : List Part) (k : Nat) : (allB (ps.take k)).length ≤ (allB ps).length := by
  have h : allB ps = allB (ps.take k) ++ allB (ps.drop k) := by
    unfold allB
    rw [← List.flatMap_append, List.take_append_drop]
  rw [h, List.length_append]; omega

set_option maxHeartbeats 800000 in
theorem concat_any (a : Option Addr) (ps : List Part) (cap : Nat) (w : World) (hr : Parts w a ps) (hnil : ∀ p ∈ ps, p.a = none → p.cap = 0) (hc : ps.length ≤ cap) (hm : cap ≤ maxLen) (hs : (allB ps).length ≤ 140737488355328) :
    Calls Tryd.prog 42 #[.slice a ps.length cap] w fun e w' => ∃ v, e = .returned v ∧ w'.ownsRow w.heap.size 5 1 v (allB ps).length ((allB ps).map (Value.int .u8)) ∧ Below w.heap.size w w' := by
  obtain ⟨i0, hi, hz0, hz1, hz2⟩ := info_parts Tryd.info5
  unfold maxLen at hm
  obtain ⟨n, hn⟩ : ∃ n, n = ps.length := ⟨_, rfl⟩
  rw [← hn] at hc ⊢
  have HN : Hid (n = ps.length) := hn
  have hat : ∀ w', Below w.heap.size w w' → ∀ j, j < n → ∃ b off, a = some ⟨b, off, none⟩ ∧ w'.cell? ⟨b, off + j, none⟩ = some (ps[j]?.getD noPart).val ∧ (ps[j]?.getD noPart).ok w' ∧ ((ps[j]?.getD noPart).a = none → (ps[j]?.getD noPart).cap = 0) := by
    intro w' hB j hj
    have hr' := hr.later hB
    rcases hr'.1 with h | ⟨b, off, ha, hcell⟩
    · rw [h] at hn; simp at hn; omega
    · exact ⟨b, off, ha, hcell j (by omega), hr'.2 _ (part_mem ps j (by omega)), hnil _ (part_mem ps j (by omega))⟩
  have HAT : Hid _ := hat
  obtain ⟨T, hT⟩ : ∃ T, T = (allB ps).length := ⟨_, rfl⟩
  have HT : Hid (T = (allB ps).length) := hT
  have hle : ∀ k, (allB (ps.take k)).length ≤ T := fun k => by rw [hT]; exact allB_take_len ps k
  have HLE : Hid _ := hle
  rw [← hT] at hs ⊢
  clear hat hn hr hnil hT hle
  go_enter Tryd.func42, Tryd.ntmps42
  go_wp2
  go_loop [3, 11] (fun x i => ∃ k s : Nat, k ≤ n ∧ i = .int .i64 k ∧ s = (allB (ps.take k)).length ∧ x = .int .i64 (s : Int)) (fun _ i => n - (intOf i).toNat)
  case atStart => exact ⟨0, 0, by omega, rfl, by simp [allB], rfl⟩
  case round =>
    obtain ⟨k, s, hk, rfl, hs1, rfl⟩ := hrel
    have HS1 : Hid (s = (allB (ps.take k)).length) := hs1
    have hsT : s ≤ T := by rw [hs1]; exact HLE.out k
    clear hs1
    by_cases hlt : k < n
    · obtain ⟨b, off, hal, hcl, hok, _⟩ := HAT.out w (Below.refl _ _) k hlt
      obtain ⟨p, hp⟩ : ∃ p, p = ps[k]?.getD noPart := ⟨_, rfl⟩
      rw [← hp] at hcl hok
      unfold Part.val at hcl
      have HNX : Hid (s + p.zs.length = (allB (ps.take (k + 1))).length) := by
        show s + p.zs.length = _
        rw [hp, parts_snoc ps k (by have := HN.out; omega), List.length_append, HS1.out]
      have hnx : s + p.zs.length ≤ T := by rw [HNX.out]; exact HLE.out (k + 1)
      have hpc := hok.2.2.1
      have hpm := hok.2.2.2
      unfold maxLen at hpm
      subst hal
      clear hp hok
      go_wp2
      go_round
      case rel => exact ⟨k + 1, s + p.zs.length, by omega, by go_num, HNX.out, by go_num⟩
      case measure => simp [intOf]; omega
    · have hkn : k = n := by omega
      have hsT2 : s = T := by rw [HS1.out, HT.out, hkn, HN.out, List.take_of_length_le (Nat.le_refl _)]
      subst hsT2
      clear hkn
      go_wp2_with fail
      refine (grow_nil s w (by omega)).mono ?_
      rintro e w1 ⟨v1, rfl, hown1, hB1⟩
      go_wp2
      go_loopw [6, 27] (fun x i wr => ∃ k m : Nat, k ≤ n ∧ i = .int .i64 k ∧ m = (allB (ps.take k)).length ∧ wr.ownsRow w.heap.size 5 1 x m ((allB (ps.take k)).map (Value.int .u8)) ∧ Below w.heap.size w wr) (fun _ i _ => n - (intOf i).toNat)
      case atStart => exact ⟨0, 0, by omega, rfl, by simp [allB], by simpa [allB] using hown1, hB1⟩
      case round =>
        obtain ⟨k, m, hk, rfl, hm1, hown, hB⟩ := hrel
        have HM1 : Hid (m = (allB (ps.take k)).length) := hm1
        have hmT : m ≤ s := by rw [hm1]; exact HLE.out k
        clear hm1
        by_cases hlt : k < n
        · obtain ⟨b, off, hal, hcl, hok, hpn⟩ := HAT.out _ hB k hlt
          obtain ⟨p, hp⟩ : ∃ p, p = ps[k]?.getD noPart := ⟨_, rfl⟩
          rw [← hp] at hcl hok hpn
          unfold Part.val at hcl
          have HNX : Hid (allB (ps.take (k + 1)) = allB (ps.take k) ++ p.zs) := by rw [hp]; exact parts_snoc ps k (by have := HN.out; omega)
          have hnx : m + p.zs.length ≤ s := by
            have := HLE.out (k + 1)
            rw [HNX.out, List.length_append, ← HM1.out] at this
            exact this
          have HPN : Hid (p.a = none → p.zs.length = 0 ∧ p.cap = 0) := fun h => by have := hpn h; have := hok.2.2.1; omega
          have hpr := hok.1
          have hpc := hok.2.2.1
          have hpm := hok.2.2.2
          unfold maxLen at hpm
          subst hal
          clear hp hok hpn
          go_wp2_with (at_builtin; refine wpList_append_own_any rfl (.tmp 31) (.tmp 32) 24 rfl w.heap.size 5 i0 (.int .u8 0) 1 1 Tryd.underlying24 hi hz0 hz1 hz2 rfl (by decide) _ m _ rfl hown p.a p.zs.length p.cap (p.zs.map (Value.int .u8)) rfl (by rw [List.length_map, Nat.mul_one]) HPN.out hpr.news (ints_oneCell _ _) (by unfold maxLen; omega) (by omega) hB.size ?_; intro v5 w5 hown5 hgrow5)
          have hB5 := hB.grown hgrow5 hB.size (own_ge hown)
          go_roundw
          case rel => exact ⟨k + 1, m + p.zs.length, by omega, by go_num, by rw [HNX.out, List.length_append, ← HM1.out], by rw [HNX.out, List.map_append]; exact hown5, hB5⟩
          case measure => simp [intOf]; omega
        · have hkn : k = n := by omega
          have hE : ps.take k = ps := by rw [hkn, HN.out]; exact List.take_of_length_le (Nat.le_refl _)
          have hmm : m = s := by rw [HM1.out, hE, HT.out]
          rw [hE, hmm] at hown
          have HOWN : Hid _ := hown
          clear hown hE hmm hkn
          go_wp2
          go_ret
          exact ⟨_, rfl, HOWN.out, hB⟩
end Go.Proofs.YtpffjeoiacaihaaDoor

/-
  The walk of the law CrcSums: the checksum of parts, one behind another.
-/
import Derived.Test.YtpffjeoiacaihaaDoorL2Known
namespace Go.Proofs.YtpffjeoiacaihaaDoor
open Go.RowKit NumMath
set_option maxRecDepth 100000
set_option linter.unusedVariables false
set_option linter.unusedSimpArgs false

set_option maxHeartbeats 800000 in
theorem crcSums_walk (a : Option Addr) (ps : List Part) (cap : Nat) (W : World) (ht : Tab W) (hr : Parts W a ps) (hc : ps.length ≤ cap) (hm : cap ≤ maxLen) :
    Calls Tryd.prog 3 #[.slice a ps.length cap] W fun e w' => e = .returned (.bool true) ∧ Below W.heap.size W w' := by
  unfold maxLen at hm
  have hS : ∀ w1, Below W.heap.size W w1 → Calls Tryd.prog 16 #[.slice a ps.length cap] w1 fun e w' => e = .returned (.int .u32 (crcOf (allB ps) : Nat)) ∧ Below w1.heap.size w1 w' :=
    fun w1 hB => crcSum_any a ps cap w1 (ht.later hB) (hr.later hB) hc hm
  have hR : ∀ w1, Below W.heap.size W w1 → Calls Tryd.prog 17 #[.slice a ps.length cap] w1 fun e w' => e = .returned (.int .u32 (crcOf (allB ps) : Nat)) ∧ w' = w1 :=
    fun w1 hB => refSum_any a ps cap w1 (hr.later hB) hc hm
  have hat : ∀ w1, Below W.heap.size W w1 → ∀ j, j < ps.length → ∃ b off p, a = some ⟨b, off, none⟩ ∧ w1.cell? ⟨b, off + j, none⟩ = some (.slice (Part.a p) p.zs.length p.cap) ∧ p.zs.length ≤ p.cap ∧ p.cap ≤ 9223372036854775807 := by
    intro w1 hB j hj
    rcases (hr.later hB).1 with h | ⟨b, off, ha, hcell⟩
    · rw [h] at hj; simp at hj
    · have hok := hr.2 _ (part_mem ps j hj)
      exact ⟨b, off, _, ha, hcell j hj, hok.2.2.1, by have := hok.2.2.2; unfold maxLen at this; omega⟩
  obtain ⟨n, hn⟩ : ∃ n, n = ps.length := ⟨_, rfl⟩
  rw [← hn] at hc hS hR hat ⊢
  have HS : Hid _ := hS
  have HR : Hid _ := hR
  have HAT : Hid _ := hat
  clear hS hR hat hn hr
  go_enter Tryd.func3, Tryd.ntmps3
  go_wp2_with fail
  refine (known2_any _ ht).mono ?_
  rintro e w1 ⟨rfl, hB1⟩
  go_wp2
  go_loop [3] (fun i => ∃ k : Nat, k ≤ n ∧ i = .int .i64 k) (fun i => n - (intOf i).toNat)
  case atStart => exact ⟨0, by omega, rfl⟩
  case round =>
    obtain ⟨k, hk, rfl⟩ := hrel
    by_cases hlt : k < n
    · obtain ⟨b, off, p, hal, hcl, hpc, hpm⟩ := HAT.out w1 hB1 k hlt
      subst hal
      by_cases hbig : 2000 < p.zs.length
      · go_wp2
        go_ret
        exact ⟨rfl, hB1⟩
      · have hsm : p.zs.length ≤ 2000 := by omega
        go_wp2
        go_round
        case rel => exact ⟨k + 1, by omega, by go_num⟩
        case measure => simp [intOf]; omega
    · by_cases hbig : 100 < n
      · go_wp2
        go_ret
        exact ⟨rfl, hB1⟩
      · have hsm : n ≤ 100 := by omega
        go_wp2_with fail
        refine Calls.mono (HS.out w1 hB1) ?_
        rintro e w2 ⟨rfl, hbel2⟩
        have hB2 := hB1.trans (hbel2.mono hB1.size)
        go_wp2_with fail
        refine Calls.mono (HR.out w2 hB2) ?_
        rintro e w3 ⟨rfl, rfl⟩
        go_wp2
        go_ret
        exact ⟨rfl, hB2⟩
end Go.Proofs.YtpffjeoiacaihaaDoor

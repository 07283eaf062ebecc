/-
  Walk of num.Big: the number of the first eight bytes.
-/
import Derived.Test.YtcgnkembfpcnnaaBigM
namespace Go.Proofs.Ytcgnkembfpcnnaa
open Go.RowKit NumMath
set_option maxRecDepth 100000
set_option linter.unusedVariables false
set_option linter.unusedSimpArgs false

theorem big_any (a : Option Addr) (zs : List Int) (cap : Nat) (w : World) (hr : Row .u8 w a zs) (hb : ∀ c ∈ zs, 0 ≤ c ∧ c ≤ 255) (hc : zs.length ≤ cap) (hm : cap ≤ maxLen) :
    Calls Try.prog 22 #[.slice a zs.length cap] w fun e w' => e = .returned (.int .u64 (bigL (zs.take 8))) ∧ w' = w := by
  unfold maxLen at hm
  rcases hr with rfl | ⟨b, off, rfl, hcell⟩
  · go_enter Try.func22, Try.ntmps22
    go_wp2
    refine wp_loop_rounds 1 ?_
    rw [rounds_succ]
    go_wp2
    go_ret
    exact ⟨rfl, rfl⟩
  · obtain ⟨n, hn⟩ : ∃ n, n = zs.length := ⟨_, rfl⟩
    rw [← hn] at hc hcell ⊢
    have HN : Hid (n = zs.length) := hn
    clear hn
    by_cases h8 : n ≤ 8
    all_goals
      go_enter Try.func22, Try.ntmps22
      go_wp2
      go_loop [3, 12] (fun v i => ∃ k : Nat, k ≤ 8 ∧ k ≤ n ∧ i = .int .i64 k ∧ v = .int .u64 (bigL (zs.take k))) (fun _ i => 8 - (intOf i).toNat)
      case atStart => exact ⟨0, by omega, by omega, rfl, rfl⟩
      case round =>
        obtain ⟨k, hk8, hkn, rfl, rfl⟩ := hrel
        have hn := HN.out
        by_cases hlt : k < n ∧ k < 8
        · obtain ⟨hlt1, hlt2⟩ := hlt
          obtain ⟨c, hcc⟩ : ∃ c, c = zs[k]?.getD 0 := ⟨_, rfl⟩
          have hcx : w.cell? ⟨b, off + k, none⟩ = some (.int .u8 c) := by rw [hcc]; simpa using hcell k hlt1
          have hB := bigL_take hb k 7 (by omega)
          have HS : Hid (bits .or .u64 (bigL (zs.take k) * 256) c = bigL (zs.take (k + 1))) := by rw [hcc]; exact big_step hb (by omega) hlt2
          have h256 : (256 : Int) ^ 7 = 72057594037927936 := by decide
          rw [h256] at hB
          have hz : 0 ≤ c ∧ c ≤ 255 := by rw [hcc]; exact hb _ (mem_getD zs k (by omega))
          clear h256 hcell hcc hn
          go_wp2
          go_round
          case rel => exact ⟨k + 1, by omega, by omega, by go_num, by rw [HS.out]⟩
          case measure => simp [intOf]; omega
        · have hst : k = n ∨ k = 8 := by omega
          have HE : Hid (bigL (zs.take k) = bigL (zs.take 8)) := by
            rcases hst with h | h
            · show bigL _ = bigL _
              rw [List.take_of_length_le (by omega), List.take_of_length_le (by omega)]
            · show bigL _ = bigL _
              rw [h]
          clear hn
          go_wp2
          go_ret
          exact ⟨ret_int HE.out, rfl⟩

end Go.Proofs.Ytcgnkembfpcnnaa

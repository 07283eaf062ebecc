/-
  Walk of newsreelref1.Big.
-/
import Derived.Test.YteockpllnhjooaaGreatDoorBigM
namespace Go.Proofs.YteockpllnhjooaaGreatDoor
open Go.RowKit NumMath
set_option maxRecDepth 100000
set_option linter.unusedVariables false
set_option linter.unusedSimpArgs false

theorem refBig_any (a : Option Addr) (zs : List Int) (cap : Nat) (w : World) (hr : Row .u8 w a zs) (hb : ∀ c ∈ zs, 0 ≤ c ∧ c ≤ 255) (hc : zs.length ≤ cap) (hm : cap ≤ maxLen) :
    Calls Tryz.prog 90 #[.slice a zs.length cap] w fun e w' => e = .returned (.int .u64 (bigL (zs.take 8))) ∧ w' = w := by
  unfold maxLen at hm
  rcases hr with rfl | ⟨b, off, rfl, hcell⟩
  · go_enter Tryz.func90, Tryz.ntmps90
    go_wp2
    refine wp_loop_rounds 1 ?_
    rw [rounds_succ]
    go_wp2
    go_ret
    exact ⟨rfl, rfl⟩
  · obtain ⟨n, hn⟩ : ∃ n, n = zs.length := ⟨_, rfl⟩
    rw [← hn] at hc hcell ⊢
    have HN : Hid (n = zs.length) := hn
    clear hn
    go_enter Tryz.func90, Tryz.ntmps90
    go_wp2
    go_loop [3, 4] (fun v i => ∃ k : Nat, k ≤ 8 ∧ k ≤ n ∧ i = .int .i64 k ∧ v = .int .u64 (bigL (zs.take k))) (fun _ i => 8 - (intOf i).toNat)
    case atStart => exact ⟨0, by omega, by omega, rfl, rfl⟩
    case round =>
      obtain ⟨k, hk8, hkn, rfl, rfl⟩ := hrel
      have hn := HN.out
      by_cases hlt1 : k < n
      · by_cases hlt2 : k < 8
        · obtain ⟨c, hcc⟩ : ∃ c, c = zs[k]?.getD 0 := ⟨_, rfl⟩
          have hcx : w.cell? ⟨b, off + k, none⟩ = some (.int .u8 c) := by rw [hcc]; simpa using hcell k hlt1
          have hB := bigL_take hb k 7 (by omega)
          have HS : Hid (bits .or .u64 (bigL (zs.take k) * 256) c = bigL (zs.take (k + 1))) := by rw [hcc]; exact big_step hb (by omega) hlt2
          have h256 : (256 : Int) ^ 7 = 72057594037927936 := by decide
          rw [h256] at hB
          have hz : 0 ≤ c ∧ c ≤ 255 := by rw [hcc]; exact hb _ (mem_getD zs k (by omega))
          clear h256 hcell hcc hn
          go_wp2
          go_round
          case rel => exact ⟨k + 1, by omega, by omega, by go_num, by rw [HS.out]⟩
          case measure => simp [intOf]; omega
        · obtain rfl : k = 8 := by omega
          clear hn
          go_wp2
          go_ret
          exact ⟨rfl, rfl⟩
      · have HE : Hid (bigL (zs.take k) = bigL (zs.take 8)) := by
          show bigL _ = bigL _
          rw [List.take_of_length_le (by omega), List.take_of_length_le (by omega)]
        have hd : decide ((k : Int) < (n : Int)) = false := by simp; omega
        clear hn
        go_wp2
        go_ret
        exact ⟨ret_int HE.out, rfl⟩

end Go.Proofs.YteockpllnhjooaaGreatDoor

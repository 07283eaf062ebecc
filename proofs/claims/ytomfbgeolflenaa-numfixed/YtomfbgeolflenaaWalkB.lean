/-
  Walks of num.Big and newsreelref1.Big: the number of a slice's first eight bytes, whatever the slice.
-/
import Derived.Test.YtomfbgeolflenaaWalkA
namespace Go.Proofs.Ytomfbgeolflenaa
open Go.RowKit NumMath
set_option linter.unusedVariables false

/-- From address a on the cells hold the numbers zs (of an empty list nothing is asked of the address). -/
def Row (k : IntKind) (w : World) (a : Option Addr) (zs : List Int) : Prop :=
  zs = [] ∨ ∃ b off, a = some ⟨b, off, none⟩ ∧ ∀ i, i < zs.length → w.cell? ⟨b, off + i, none⟩ = some (.int k (zs.getD i 0))

theorem p64 : (2 : Int) ^ 64 = 18446744073709551616 := by decide
theorem p8 : (2 : Int) ^ 8 = 256 := by decide
theorem wraps64 (n : Int) (h : 0 ≤ n) (h' : n < 2 ^ 64) : IntKind.u64.wrap n = n := by
  rw [p64] at h'
  exact IntWalk.u64_in n ⟨h, by omega⟩
theorem or8 {x c : Int} (h0 : 0 ≤ x) (h1 : x < 72057594037927936) (c0 : 0 ≤ c) (c1 : c ≤ 255) : bits .or .u64 (x * 256) c = x * 256 + c := by
  refine bits_join .u64 64 (by decide) wraps64 8 (x * 256) c (by omega) ?_ ?_ c0 ?_ ?_
  · rw [p8]; omega
  · rw [p64]; omega
  · rw [p8]; omega
  · rw [p64]; omega

theorem big_step {zs : List Int} (hb : ∀ c ∈ zs, 0 ≤ c ∧ c ≤ 255) {k : Nat} (hk : k < zs.length) (h8 : k < 8) : bits .or .u64 (bigL (zs.take k) * 256) (zs[k]?.getD 0) = bigL (zs.take (k + 1)) := by
  have h1 := bigL_take hb k 7 (by omega)
  have : (256 : Int) ^ 7 = 72057594037927936 := by decide
  rw [this] at h1
  have h2 := hb _ (mem_getD zs k hk)
  rw [or8 h1.1 h1.2 h2.1 h2.2, take_snoc zs k hk, bigL_snoc]

theorem big_any (a : Option Addr) (zs : List Int) (cap : Nat) (w : World) (hr : Row .u8 w a zs) (hb : ∀ c ∈ zs, 0 ≤ c ∧ c ≤ 255) (hc : zs.length ≤ cap) (hm : cap ≤ maxLen) :
    Calls Try.prog 18 #[.slice a zs.length cap] w fun e w' => e = .returned (.int .u64 (bigL (zs.take 8))) ∧ w' = w := by
  unfold maxLen at hm
  rcases hr with rfl | ⟨b, off, rfl, hcell⟩
  · go_enter Try.func18, Try.ntmps18
    go_wp2
    refine wp_loop_rounds 1 ?_
    rw [rounds_succ]
    go_wp2
    go_ret
    exact ⟨rfl, rfl⟩
  · obtain ⟨n, hn⟩ : ∃ n, n = zs.length := ⟨_, rfl⟩
    rw [← hn] at hc hcell ⊢
    have HN : Hid (n = zs.length) := hn
    clear hn
    by_cases h8 : n ≤ 8
    all_goals
      go_enter Try.func18, Try.ntmps18
      go_wp2
      go_loop [3, 12] (fun v i => ∃ k : Nat, k ≤ 8 ∧ k ≤ n ∧ i = .int .i64 k ∧ v = .int .u64 (bigL (zs.take k))) (fun _ i => 8 - (intOf i).toNat)
      case atStart => exact ⟨0, by omega, by omega, rfl, rfl⟩
      case round =>
        obtain ⟨k, hk8, hkn, rfl, rfl⟩ := hrel
        have hn := HN.out
        by_cases hlt : k < n ∧ k < 8
        · obtain ⟨hlt1, hlt2⟩ := hlt
          obtain ⟨c, hcc⟩ : ∃ c, c = zs[k]?.getD 0 := ⟨_, rfl⟩
          have hcx : w.cell? ⟨b, off + k, none⟩ = some (.int .u8 c) := by rw [hcc]; simpa using hcell k hlt1
          have hB := bigL_take hb k 7 (by omega)
          have HS : Hid (bits .or .u64 (bigL (zs.take k) * 256) c = bigL (zs.take (k + 1))) := by rw [hcc]; exact big_step hb (by omega) hlt2
          have h256 : (256 : Int) ^ 7 = 72057594037927936 := by decide
          rw [h256] at hB
          have hz : 0 ≤ c ∧ c ≤ 255 := by rw [hcc]; exact hb _ (mem_getD zs k (by omega))
          clear h256 hcell hcc hn
          go_wp2
          go_round
          case rel => exact ⟨k + 1, by omega, by omega, by go_num, by rw [HS.out]⟩
          case measure => simp [intOf]; omega
        · have hst : k = n ∨ k = 8 := by omega
          have HE : Hid (bigL (zs.take k) = bigL (zs.take 8)) := by
            rcases hst with h | h
            · show bigL _ = bigL _
              rw [List.take_of_length_le (by omega), List.take_of_length_le (by omega)]
            · show bigL _ = bigL _
              rw [h]
          clear hn
          go_wp2
          go_ret
          exact ⟨ret_int HE.out, rfl⟩

theorem refBig_any (a : Option Addr) (zs : List Int) (cap : Nat) (w : World) (hr : Row .u8 w a zs) (hb : ∀ c ∈ zs, 0 ≤ c ∧ c ≤ 255) (hc : zs.length ≤ cap) (hm : cap ≤ maxLen) :
    Calls Try.prog 19 #[.slice a zs.length cap] w fun e w' => e = .returned (.int .u64 (bigL (zs.take 8))) ∧ w' = w := by
  unfold maxLen at hm
  rcases hr with rfl | ⟨b, off, rfl, hcell⟩
  · go_enter Try.func19, Try.ntmps19
    go_wp2
    refine wp_loop_rounds 1 ?_
    rw [rounds_succ]
    go_wp2
    go_ret
    exact ⟨rfl, rfl⟩
  · obtain ⟨n, hn⟩ : ∃ n, n = zs.length := ⟨_, rfl⟩
    rw [← hn] at hc hcell ⊢
    have HN : Hid (n = zs.length) := hn
    clear hn
    go_enter Try.func19, Try.ntmps19
    go_wp2
    go_loop [3, 4] (fun v i => ∃ k : Nat, k ≤ 8 ∧ k ≤ n ∧ i = .int .i64 k ∧ v = .int .u64 (bigL (zs.take k))) (fun _ i => 8 - (intOf i).toNat)
    case atStart => exact ⟨0, by omega, by omega, rfl, rfl⟩
    case round =>
      obtain ⟨k, hk8, hkn, rfl, rfl⟩ := hrel
      have hn := HN.out
      by_cases hlt1 : k < n
      · by_cases hlt2 : k < 8
        · obtain ⟨c, hcc⟩ : ∃ c, c = zs[k]?.getD 0 := ⟨_, rfl⟩
          have hcx : w.cell? ⟨b, off + k, none⟩ = some (.int .u8 c) := by rw [hcc]; simpa using hcell k hlt1
          have hB := bigL_take hb k 7 (by omega)
          have HS : Hid (bits .or .u64 (bigL (zs.take k) * 256) c = bigL (zs.take (k + 1))) := by rw [hcc]; exact big_step hb (by omega) hlt2
          have h256 : (256 : Int) ^ 7 = 72057594037927936 := by decide
          rw [h256] at hB
          have hz : 0 ≤ c ∧ c ≤ 255 := by rw [hcc]; exact hb _ (mem_getD zs k (by omega))
          clear h256 hcell hcc hn
          go_wp2
          go_round
          case rel => exact ⟨k + 1, by omega, by omega, by go_num, by rw [HS.out]⟩
          case measure => simp [intOf]; omega
        · obtain rfl : k = 8 := by omega
          clear hn
          go_wp2
          go_ret
          exact ⟨rfl, rfl⟩
      · have HE : Hid (bigL (zs.take k) = bigL (zs.take 8)) := by
          show bigL _ = bigL _
          rw [List.take_of_length_le (by omega), List.take_of_length_le (by omega)]
        have hd : decide ((k : Int) < (n : Int)) = false := by simp; omega
        clear hn
        go_wp2
        go_ret
        exact ⟨ret_int HE.out, rfl⟩

end Go.Proofs.Ytomfbgeolflenaa

/-
  Walk of newsreelref1.More: the checksum, bit by bit.
-/
import Derived.Test.YtpffjeoiacaihaaDoorCrcKit
namespace Go.Proofs.YtpffjeoiacaihaaDoor
open Go.RowKit NumMath
set_option maxRecDepth 100000
set_option linter.unusedVariables false
set_option linter.unusedSimpArgs false

set_option maxHeartbeats 800000 in
theorem refMore_any (s : Nat) (a : Option Addr) (zs : List Int) (cap : Nat) (w : World) (hs : s < 4294967296) (hr : Row .u8 w a zs) (hb : ∀ c ∈ zs, 0 ≤ c ∧ c ≤ 255) (hc : zs.length ≤ cap) (hm : cap ≤ maxLen) :
    Calls Tryd.prog 19 #[.int .u32 (s : Int), .slice a zs.length cap] w fun e w' => e = .returned (.int .u32 (CrcMath.more s (nats zs) : Nat)) ∧ w' = w := by
  unfold maxLen at hm
  obtain ⟨n, hn⟩ : ∃ n, n = zs.length := ⟨_, rfl⟩
  rw [← hn] at hc ⊢
  have HN : Hid (n = zs.length) := hn
  have hat : ∀ j, j < n → ∃ b off, a = some ⟨b, off, none⟩ ∧ w.cell? ⟨b, off + j, none⟩ = some (.int .u8 (zs[j]?.getD 0)) := by
    intro j hj
    rcases hr with h | ⟨b, off, ha, hcell⟩
    · rw [h] at hn; simp at hn; omega
    · exact ⟨b, off, ha, by simpa using hcell j (by omega)⟩
  have HAT : Hid _ := hat
  obtain ⟨t, ht⟩ : ∃ t, t = s ^^^ CrcMath.ones := ⟨_, rfl⟩
  have htl : t < 4294967296 := by rw [ht]; exact CrcMath.xor_lt hs (by decide)
  have hnot := not32 hs
  rw [← ht] at hnot
  obtain ⟨R, hR⟩ : ∃ R, R = CrcMath.run t (nats zs) := ⟨_, rfl⟩
  have HR : Hid (R = CrcMath.run t (nats zs)) := hR
  have hRl : R < 4294967296 := by rw [hR]; exact CrcMath.run_lt htl _ (nats_byte hb)
  have HM : Hid (CrcMath.more s (nats zs) = R ^^^ CrcMath.ones) := by show CrcMath.more s (nats zs) = _; unfold CrcMath.more; rw [← ht, ← hR]
  rw [HM.out]
  clear hat hn ht hR hr
  go_enter Tryd.func19, Tryd.ntmps19
  go_wp2
  go_loop [0, 5] (fun x i => ∃ (k q : Nat), k ≤ n ∧ i = .int .i64 k ∧ x = .int .u32 (q : Int) ∧ q < 4294967296 ∧ CrcMath.run q (nats (zs.drop k)) = R) (fun _ i => n - (intOf i).toNat)
  case atStart => exact ⟨0, t, by omega, rfl, rfl, htl, by rw [HR.out]; simp⟩
  case round =>
    obtain ⟨k, q, hk, rfl, rfl, hq, hrun⟩ := hrel
    have HRUN : Hid (CrcMath.run q (nats (zs.drop k)) = R) := hrun
    clear hrun
    by_cases hlt : k < n
    · obtain ⟨b, off, hal, hcl⟩ := HAT.out k hlt
      obtain ⟨c, hcc⟩ : ∃ c, c = zs[k]?.getD 0 := ⟨_, rfl⟩
      rw [← hcc] at hcl
      have hz : 0 ≤ c ∧ c ≤ 255 := by rw [hcc]; exact hb _ (mem_getD zs k (by have := HN.out; omega))
      have hx := xor32 hq hz.1 hz.2
      have HST : Hid (nats (zs.drop k) = c.toNat :: nats (zs.drop (k + 1))) := by rw [hcc]; exact nats_step zs k (by have := HN.out; omega)
      obtain ⟨T, hT⟩ : ∃ T, T = CrcMath.byteC q c.toNat := ⟨_, rfl⟩
      have HT : Hid (T = CrcMath.byteC q c.toNat) := hT
      obtain ⟨y, hy⟩ : ∃ y, y = q ^^^ c.toNat := ⟨_, rfl⟩
      have hyl : y < 4294967296 := by rw [hy]; exact CrcMath.xor_lt hq (by omega)
      have HY : Hid (T = CrcMath.steps 8 y) := by show T = _; rw [hT, hy]; rfl
      rw [← hy] at hx
      subst hal
      clear hcc hT hy hnot
      go_wp2
      go_loop [0, 6] (fun x i => ∃ (j p : Nat), j ≤ 8 ∧ i = .int .i64 j ∧ x = .int .u32 (p : Int) ∧ p < 4294967296 ∧ CrcMath.steps (8 - j) p = T) (fun _ i => 8 - (intOf i).toNat)
      case atStart => exact ⟨0, y, by omega, rfl, rfl, hyl, HY.out.symm⟩
      case round =>
        obtain ⟨j, p, hj, rfl, rfl, hp, hst⟩ := hrel
        have HS : Hid (CrcMath.steps (8 - j) p = T) := hst
        clear hst hx
        by_cases hj8 : j < 8
        · have h1 := and1 hp
          have HS2 : Hid (CrcMath.steps (8 - (j + 1)) (CrcMath.step p) = T) := by
            have := HS.out
            rw [show 8 - j = (8 - (j + 1)) + 1 by omega] at this
            exact this
          by_cases hodd : p % 2 = 1
          · have e1 : (((p % 2 : Nat) : Int) == 1) = true := by rw [hodd]; rfl
            have hx2 := xorPoly hp
            have HP : Hid (CrcMath.step p = p / 2 ^^^ CrcMath.poly) := by show CrcMath.step p = _; unfold CrcMath.step; rw [if_pos hodd]
            have hlt2 : p / 2 ^^^ CrcMath.poly < 4294967296 := CrcMath.xor_lt (by omega) (by decide)
            clear hodd
            go_wp2
            go_round
            case rel => exact ⟨j + 1, _, by omega, by go_num, rfl, hlt2, by rw [← HP.out]; exact HS2.out⟩
            case measure => simp [intOf]; omega
          · have e1 : (((p % 2 : Nat) : Int) == 1) = false := by rw [show p % 2 = 0 by omega]; rfl
            have HP : Hid (CrcMath.step p = p / 2) := by show CrcMath.step p = _; unfold CrcMath.step; rw [if_neg hodd]
            clear hodd
            go_wp2
            go_round
            case rel => exact ⟨j + 1, p / 2, by omega, by go_num, by go_num, by omega, by rw [← HP.out]; exact HS2.out⟩
            case measure => simp [intOf]; omega
        · have hj9 : j = 8 := by omega
          have hpT : p = T := by
            have := HS.out
            rw [hj9] at this
            exact this
          have HE : Hid (CrcMath.run p (nats (zs.drop (k + 1))) = R) := by
            rw [hpT, HT.out]
            have := HRUN.out
            rw [HST.out] at this
            exact this
          clear hj9 hpT
          go_wp2
          go_round
          case rel => exact ⟨k + 1, p, by omega, by go_num, rfl, hp, HE.out⟩
          case measure => simp [intOf]; omega
    · have hkn : k = n := by omega
      have hq2 : q = R := by
        have := HRUN.out
        rw [hkn, HN.out, List.drop_of_length_le (Nat.le_refl _)] at this
        exact this
      have hnr := not32 hRl
      subst hq2
      go_wp2
      go_ret
      exact ⟨rfl, rfl⟩
end Go.Proofs.YtpffjeoiacaihaaDoor

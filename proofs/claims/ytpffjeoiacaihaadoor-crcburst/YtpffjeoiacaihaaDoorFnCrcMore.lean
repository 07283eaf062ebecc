/-
  Walk of crc.More: four bits at a time, by the table of sixteen words.
-/
import Derived.Test.YtpffjeoiacaihaaDoorCrcKit
namespace Go.Proofs.YtpffjeoiacaihaaDoor
open Go.RowKit NumMath
set_option maxRecDepth 100000
set_option linter.unusedVariables false
set_option linter.unusedSimpArgs false

theorem split4 (x : Nat) : x % 16 ^^^ 16 * (x / 16) = x := by
  have h := Nat.two_pow_add_eq_or_of_lt (i := 4) (b := x % 16) (by omega) (x / 16)
  have h2 : 2 ^ 4 * (x / 16) + x % 16 = x := by omega
  rw [h2] at h
  apply Nat.eq_of_testBit_eq
  intro i
  rw [Nat.testBit_xor]
  conv => rhs; rw [h]
  rw [Nat.testBit_or]
  have e16 : 16 * (x / 16) = 2 ^ 4 * (x / 16) := rfl
  rw [e16, Nat.testBit_two_pow_mul]
  by_cases hi : i < 4
  · have : ¬ 4 ≤ i := by omega
    simp [this]
  · have hlow : (x % 16).testBit i = false := by
      apply Nat.testBit_lt_two_pow
      have : 2 ^ 4 ≤ 2 ^ i := Nat.pow_le_pow_right (by decide) (by omega)
      omega
    rw [hlow]; simp
/-- Four bits at once. -/
theorem steps4 (r : Nat) : CrcMath.steps 4 r = r / 16 ^^^ CrcMath.steps 4 (r % 16) := by
  have h := CrcMath.steps_xor 4 (r % 16) (16 * (r / 16))
  rw [split4] at h
  have h2 : CrcMath.steps 4 (16 * (r / 16)) = r / 16 := CrcMath.steps_shift 4 (r / 16)
  rw [h2, Nat.xor_comm] at h
  exact h
theorem steps4_small (k : Nat) : CrcMath.steps 4 (k % 16) < 4294967296 := CrcMath.steps_lt 4 (by omega)

/-- The table lies in memory: what four bits do. -/
def Tab (w : World) : Prop := ∀ i, i < 16 → w.cell? ⟨0, i, none⟩ = some (.int .u32 ((CrcMath.steps 4 i : Nat) : Int))
theorem Tab.later {w w' : World} (h : Tab w) (hb : Below w.heap.size w w') : Tab w' := fun i hi => by
  have := h i hi
  rw [hb.cell (World.block_lt_of_cell? w _ this)]
  exact this
theorem Tab.next {w w' : World} {W : World} (h : Tab W) (hb : Below W.heap.size W w) (hb' : Below w.heap.size w w') : Tab w' := (h.later hb).later hb'
theorem Tab.alloc {w : World} (h : Tab w) (o : Obj) : Tab (w.alloc o) := h.later ((Below.refl _ _).alloc (Nat.le_refl _) _)

theorem and15 {s : Nat} (h : s < 4294967296) : bits .and .u32 (s : Int) 15 = ((s % 16 : Nat) : Int) := by
  have := u32_and_nat s 15 h (by decide)
  rw [show s &&& 15 = s % 16 from Nat.and_two_pow_sub_one_eq_mod s 4] at this
  exact this
theorem xor4 {s : Nat} (h : s < 4294967296) : bits .xor .u32 ((s : Int) / 16) ((CrcMath.steps 4 (s % 16) : Nat) : Int) = ((CrcMath.steps 4 s : Nat) : Int) := by
  have := u32_xor_nat (s / 16) (CrcMath.steps 4 (s % 16)) (by omega) (steps4_small s)
  rw [← steps4] at this
  exact this

set_option maxHeartbeats 800000 in
theorem crcMore_same (s : Nat) (a : Option Addr) (zs : List Int) (cap : Nat) (w : World) (ht : Tab w) (hs : s < 4294967296) (hr : Row .u8 w a zs) (hb : ∀ c ∈ zs, 0 ≤ c ∧ c ≤ 255) (hc : zs.length ≤ cap) (hm : cap ≤ maxLen) :
    Calls Tryd.prog 18 #[.int .u32 (s : Int), .slice a zs.length cap] w fun e w' => e = .returned (.int .u32 (CrcMath.more s (nats zs) : Nat)) ∧ w' = w := by
  unfold maxLen at hm
  obtain ⟨n, hn⟩ : ∃ n, n = zs.length := ⟨_, rfl⟩
  rw [← hn] at hc ⊢
  have HN : Hid (n = zs.length) := hn
  have hat : ∀ j, j < n → ∃ b off, a = some ⟨b, off, none⟩ ∧ w.cell? ⟨b, off + j, none⟩ = some (.int .u8 (zs[j]?.getD 0)) := by
    intro j hj
    rcases hr with h | ⟨b, off, ha, hcell⟩
    · rw [h] at hn; simp at hn; omega
    · exact ⟨b, off, ha, by simpa using hcell j (by omega)⟩
  have HAT : Hid _ := hat
  have HTB : Hid _ := ht
  obtain ⟨t, hT0⟩ : ∃ t, t = s ^^^ CrcMath.ones := ⟨_, rfl⟩
  have htl : t < 4294967296 := by rw [hT0]; exact CrcMath.xor_lt hs (by decide)
  have hnot := not32 hs
  rw [← hT0] at hnot
  obtain ⟨R, hR⟩ : ∃ R, R = CrcMath.run t (nats zs) := ⟨_, rfl⟩
  have HR : Hid (R = CrcMath.run t (nats zs)) := hR
  have hRl : R < 4294967296 := by rw [hR]; exact CrcMath.run_lt htl _ (nats_byte hb)
  have HM : Hid (CrcMath.more s (nats zs) = R ^^^ CrcMath.ones) := by show CrcMath.more s (nats zs) = _; unfold CrcMath.more; rw [← hT0, ← hR]
  rw [HM.out]
  clear hat hn hT0 hR hr ht
  go_enter Tryd.func18, Tryd.ntmps18
  go_wp2
  go_loop [5, 12] (fun x i => ∃ (k q : Nat), k ≤ n ∧ i = .int .i64 k ∧ x = .int .u32 (q : Int) ∧ q < 4294967296 ∧ CrcMath.run q (nats (zs.drop k)) = R) (fun _ i => n - (intOf i).toNat)
  case atStart => exact ⟨0, t, by omega, rfl, rfl, htl, by rw [HR.out]; simp⟩
  case round =>
    obtain ⟨k, q, hk, rfl, rfl, hq, hrun⟩ := hrel
    have HRUN : Hid (CrcMath.run q (nats (zs.drop k)) = R) := hrun
    clear hrun
    by_cases hlt : k < n
    · obtain ⟨b, off, hal, hcl⟩ := HAT.out k hlt
      obtain ⟨c, hcc⟩ : ∃ c, c = zs[k]?.getD 0 := ⟨_, rfl⟩
      rw [← hcc] at hcl
      have hz : 0 ≤ c ∧ c ≤ 255 := by rw [hcc]; exact hb _ (mem_getD zs k (by have := HN.out; omega))
      have hx := xor32 hq hz.1 hz.2
      have HST : Hid (nats (zs.drop k) = c.toNat :: nats (zs.drop (k + 1))) := by rw [hcc]; exact nats_step zs k (by have := HN.out; omega)
      obtain ⟨y, hy⟩ : ∃ y, y = q ^^^ c.toNat := ⟨_, rfl⟩
      have hyl : y < 4294967296 := by rw [hy]; exact CrcMath.xor_lt hq (by omega)
      obtain ⟨y1, hy1⟩ : ∃ y1, y1 = CrcMath.steps 4 y := ⟨_, rfl⟩
      have hy1l : y1 < 4294967296 := by rw [hy1]; exact CrcMath.steps_lt 4 hyl
      obtain ⟨y2, hy2⟩ : ∃ y2, y2 = CrcMath.steps 4 y1 := ⟨_, rfl⟩
      have hy2l : y2 < 4294967296 := by rw [hy2]; exact CrcMath.steps_lt 4 hy1l
      have HE : Hid (CrcMath.run y2 (nats (zs.drop (k + 1))) = R) := by
        have h1 := HRUN.out
        rw [HST.out] at h1
        have h2 : CrcMath.byteC q c.toNat = y2 := by
          unfold CrcMath.byteC
          rw [← hy, show 8 = 4 + 4 from rfl, CrcMath.steps_add, ← hy1, ← hy2]
        rw [← h2]; exact h1
      have c1 := HTB.out (y % 16) (by omega)
      have c2 := HTB.out (y1 % 16) (by omega)
      have x1 := xor4 hyl
      have x2 := xor4 hy1l
      rw [← hy1] at x1
      rw [← hy2] at x2
      obtain ⟨t1, ht1⟩ : ∃ t1, t1 = CrcMath.steps 4 (y % 16) := ⟨_, rfl⟩
      obtain ⟨t2, ht2⟩ : ∃ t2, t2 = CrcMath.steps 4 (y1 % 16) := ⟨_, rfl⟩
      have l1 : t1 < 4294967296 := by rw [ht1]; exact steps4_small y
      have l2 : t2 < 4294967296 := by rw [ht2]; exact steps4_small y1
      rw [← ht1] at c1 x1
      rw [← ht2] at c2 x2
      have a1 := and15 hyl
      have a2 := and15 hy1l
      obtain ⟨i1, hi1⟩ : ∃ i1, i1 = y % 16 := ⟨_, rfl⟩
      obtain ⟨i2, hi2⟩ : ∃ i2, i2 = y1 % 16 := ⟨_, rfl⟩
      have hi1l : i1 < 16 := by omega
      have hi2l : i2 < 16 := by omega
      rw [← hi1] at c1 a1
      rw [← hi2] at c2 a2
      rw [← hy] at hx
      subst hal
      clear hcc hy hy1 hy2 hnot ht1 ht2 hi1 hi2
      go_wp2
      go_round
      case rel => exact ⟨k + 1, y2, by omega, by go_num, rfl, hy2l, HE.out⟩
      case measure => simp [intOf]; omega
    · have hkn : k = n := by omega
      have hq2 : q = R := by
        have := HRUN.out
        rw [hkn, HN.out, List.drop_of_length_le (Nat.le_refl _)] at this
        exact this
      have hnr := not32 hRl
      subst hq2
      go_wp2
      go_ret
      exact ⟨rfl, rfl⟩
theorem crcMore_any (s : Nat) (a : Option Addr) (zs : List Int) (cap : Nat) (w : World) (ht : Tab w) (hs : s < 4294967296) (hr : Row .u8 w a zs) (hb : ∀ c ∈ zs, 0 ≤ c ∧ c ≤ 255) (hc : zs.length ≤ cap) (hm : cap ≤ maxLen) :
    Calls Tryd.prog 18 #[.int .u32 (s : Int), .slice a zs.length cap] w fun e w' => e = .returned (.int .u32 (CrcMath.more s (nats zs) : Nat)) ∧ Below w.heap.size w w' := by
  refine (crcMore_same s a zs cap w ht hs hr hb hc hm).mono ?_
  rintro e w' ⟨rfl, rfl⟩
  exact ⟨rfl, Below.refl _ _⟩
end Go.Proofs.YtpffjeoiacaihaaDoor

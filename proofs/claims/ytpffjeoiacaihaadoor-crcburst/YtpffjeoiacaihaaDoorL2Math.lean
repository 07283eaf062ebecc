/-
  Plain facts on what is sealed: with one byte changed, or up to four bytes in a row, it isn't opened.
-/
import Derived.Test.YtpffjeoiacaihaaDoorFnRefOpen
namespace Go.Proofs.YtpffjeoiacaihaaDoor
open Go.RowKit NumMath
set_option maxRecDepth 100000
set_option linter.unusedVariables false
set_option linter.unusedSimpArgs false

theorem xor8_nat {x y : Int} (hx : 0 ≤ x ∧ x ≤ 255) (hy : 0 ≤ y ∧ y ≤ 255) : bits .xor .u8 x y = ((x.toNat ^^^ y.toNat : Nat) : Int) := u8_xor x y hx.1 (by omega) hy.1 (by omega)
theorem xor8_ne {x y : Int} (hx : 0 ≤ x ∧ x ≤ 255) (hy : 0 ≤ y ∧ y ≤ 255) (h : y ≠ 0) : bits .xor .u8 x y ≠ x := by
  rw [xor8_nat hx hy]
  intro e
  have e1 : x.toNat ^^^ y.toNat = x.toNat ^^^ 0 := by rw [Nat.xor_zero]; omega
  have := CrcMath.xor_cancel_left e1
  omega
theorem xor8_bd (x y : Int) : 0 ≤ bits .xor .u8 x y ∧ bits .xor .u8 x y ≤ 255 := ⟨bits_lo_u8 _ _ _, bits_hi_u8 _ _ _⟩

theorem set_parts (l : List Int) (p : Nat) (x : Int) (h : p < l.length) : l.set p x = l.take p ++ [x] ++ l.drop (p + 1) := by
  rw [List.set_eq_take_append_cons_drop, if_pos h]; simp
theorem self_parts (l : List Int) (p : Nat) (h : p < l.length) : l = l.take p ++ [l[p]?.getD 0] ++ l.drop (p + 1) := by
  have := List.take_append_drop p l
  rw [List.drop_eq_getElem_cons h] at this
  simp [h, this]
theorem nats_one (x : Int) : nats [x] = [x.toNat] := rfl

/-- One byte that is another one makes another checksum. -/
theorem crc_one {zs : List Int} (hb : ∀ c ∈ zs, 0 ≤ c ∧ c ≤ 255) (p : Nat) (hp : p < zs.length) {x : Int} (hx : 0 ≤ x ∧ x ≤ 255) (hne : x ≠ zs[p]?.getD 0) : crcOf (zs.set p x) ≠ crcOf zs := by
  have hc := hb _ (mem_getD zs p hp)
  have e1 := set_parts zs p x hp
  have e2 := self_parts zs p hp
  generalize zs[p]?.getD 0 = c at *
  have hpre : ∀ y ∈ nats (zs.take p), y < 256 := nats_byte (fun y hy => hb y (List.mem_of_mem_take hy))
  have hpost : ∀ y ∈ nats (zs.drop (p + 1)), y < 256 := nats_byte (fun y hy => hb y (List.mem_of_mem_drop hy))
  have := CrcMath.one_byte (s := 0) (c := c.toNat) (d := x.toNat) (by decide) (nats (zs.take p)) (nats (zs.drop (p + 1))) hpre (by omega) (by omega) hpost (by omega)
  unfold crcOf
  rw [e1]
  conv => rhs; rw [e2]
  rw [nats_append, nats_append, nats_append, nats_append, nats_one, nats_one]
  exact this

/-- The four bytes say their checksum. -/
theorem big_crc {zs : List Int} (hb : ∀ c ∈ zs, 0 ≤ c ∧ c ≤ 255) : bigL (fixL 4 (crcOf zs : Nat)) = (crcOf zs : Nat) := by
  have hc := crcOf_lt hb
  rw [big_fix 4 _ (by omega)]
  have h4 : (256 : Int) ^ 4 = 4294967296 := by decide
  rw [h4, Int.emod_eq_of_lt (by omega) (by omega)]

theorem open_false {S : List Int} (L : Nat) (hl : S.length = L + 4) (h : bigL (S.drop L) ≠ ((crcOf (S.take L) : Nat) : Int)) : openB S = false := by
  unfold openB openQ
  rw [hl, Nat.add_sub_cancel]
  simp [h]

/-- Sealed bytes of which those ahead of the checksum were changed to others with another checksum. -/
theorem open_head {zs ys : List Int} (hb : ∀ c ∈ zs, 0 ≤ c ∧ c ≤ 255) (hl : ys.length = zs.length) (h : crcOf ys ≠ crcOf zs) : openB (ys ++ fixL 4 (crcOf zs : Nat)) = false := by
  refine open_false zs.length (by simp [fixL_len, hl]) ?_
  rw [← hl, List.drop_left, List.take_left, big_crc hb]
  omega

theorem seal_one {zs : List Int} (hb : ∀ c ∈ zs, 0 ≤ c ∧ c ≤ 255) (p : Nat) (hp : p < (sealL zs).length) {x : Int} (hx : 0 ≤ x ∧ x ≤ 255) (hne : x ≠ (sealL zs)[p]?.getD 0) : openB ((sealL zs).set p x) = false := by
  have hl := sealL_len zs
  by_cases h : p < zs.length
  · have e : (sealL zs).set p x = zs.set p x ++ fixL 4 (crcOf zs : Nat) := by unfold sealL; rw [List.set_append_left _ _ h]
    rw [e]
    refine open_head hb (by simp) (crc_one hb p h hx ?_)
    intro e2
    apply hne
    rw [e2]
    unfold sealL
    rw [List.getElem?_append_left h]
  · have e : (sealL zs).set p x = zs ++ (fixL 4 (crcOf zs : Nat)).set (p - zs.length) x := by unfold sealL; rw [List.set_append_right _ _ (by omega)]
    refine open_false zs.length (by simp [hl]) ?_
    rw [e, List.drop_left, List.take_left]
    intro eq
    have hfb := fixL_byte 4 ((crcOf zs : Nat) : Int)
    have h1 := fix_bigL ((fixL 4 (crcOf zs : Nat)).set (p - zs.length) x) (bytes_set hfb _ hx)
    rw [eq, List.length_set, fixL_len] at h1
    apply hne
    unfold sealL
    rw [List.getElem?_append_right (by omega), h1]
    have : p - zs.length < 4 := by omega
    simp [fixL_len, this]

end Go.Proofs.YtpffjeoiacaihaaDoor

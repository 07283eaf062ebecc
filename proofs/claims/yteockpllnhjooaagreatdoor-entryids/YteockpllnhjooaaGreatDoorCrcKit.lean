/-
  The checksum's mathematics in the walk's own forms: bytes as natural numbers, exclusive or, one bit.
-/
import Derived.Test.YteockpllnhjooaaGreatDoorKit
import Derived.Test.YteockpllnhjooaaGreatDoorCrcMath
namespace Go.Proofs.YteockpllnhjooaaGreatDoor
open Go.RowKit NumMath
set_option maxRecDepth 100000
set_option linter.unusedVariables false
set_option linter.unusedSimpArgs false

/-- Bytes as natural numbers. -/
def nats (zs : List Int) : List Nat := zs.map Int.toNat

theorem nats_byte {zs : List Int} (h : ∀ c ∈ zs, 0 ≤ c ∧ c ≤ 255) : ∀ c ∈ nats zs, c < 256 := by
  intro c hc
  obtain ⟨x, hx, rfl⟩ := List.mem_map.1 hc
  have := h x hx; omega
theorem nats_append (a b : List Int) : nats (a ++ b) = nats a ++ nats b := List.map_append
theorem nats_step (zs : List Int) (k : Nat) (h : k < zs.length) : nats (zs.drop k) = (zs[k]?.getD 0).toNat :: nats (zs.drop (k + 1)) := by
  rw [List.drop_eq_getElem_cons h]
  show zs[k].toNat :: _ = _
  rw [show zs[k]?.getD 0 = zs[k] by simp [h]]
  rfl
theorem not32 {s : Nat} (h : s < 4294967296) : bits .xor .u32 IntKind.u32.max (s : Int) = ((s ^^^ CrcMath.ones : Nat) : Int) := by
  have := u32_xor_nat CrcMath.ones s (by decide) h
  rw [Nat.xor_comm s]
  exact this
theorem xor32 {s : Nat} {c : Int} (h : s < 4294967296) (h0 : 0 ≤ c) (h1 : c ≤ 255) : bits .xor .u32 (s : Int) c = ((s ^^^ c.toNat : Nat) : Int) := by
  obtain ⟨d, rfl⟩ := Int.eq_ofNat_of_zero_le h0
  rw [Int.toNat_natCast]
  exact u32_xor_nat s d h (by omega)
theorem and1 {s : Nat} (h : s < 4294967296) : bits .and .u32 (s : Int) 1 = ((s % 2 : Nat) : Int) := by
  have := u32_and_nat s 1 h (by decide)
  rw [Nat.and_one_is_mod] at this
  exact this
theorem xorPoly {s : Nat} (h : s < 4294967296) : bits .xor .u32 ((s : Int) / 2) 3988292384 = ((s / 2 ^^^ CrcMath.poly : Nat) : Int) := by
  have := u32_xor_nat (s / 2) CrcMath.poly (by omega) (by decide)
  exact this

/-- A part: a slice of bytes, its address, its bytes, its room. -/
structure Part where
  a : Option Addr
  zs : List Int
  cap : Nat

def Part.val (p : Part) : Value := .slice p.a p.zs.length p.cap
/-- A part that lies in memory. -/
def Part.ok (w : World) (p : Part) : Prop := Row .u8 w p.a p.zs ∧ (∀ c ∈ p.zs, 0 ≤ c ∧ c ≤ 255) ∧ p.zs.length ≤ p.cap ∧ p.cap ≤ maxLen
def noPart : Part := ⟨none, [], 0⟩
/-- From address a on the cells hold the parts ps, each of which lies in memory. -/
def Parts (w : World) (a : Option Addr) (ps : List Part) : Prop :=
  (ps = [] ∨ ∃ b off, a = some ⟨b, off, none⟩ ∧ ∀ i, i < ps.length → w.cell? ⟨b, off + i, none⟩ = some (ps[i]?.getD noPart).val) ∧ ∀ p ∈ ps, p.ok w
/-- All bytes of some parts. -/
def allB (ps : List Part) : List Int := ps.flatMap Part.zs

theorem part_ok {w : World} {a : Option Addr} {zs : List Int} {cap : Nat} (hr : Row .u8 w a zs) (hb : ∀ c ∈ zs, 0 ≤ c ∧ c ≤ 255) (hc : zs.length ≤ cap) (hm : cap ≤ maxLen) : (Part.mk a zs cap).ok w := ⟨hr, hb, hc, hm⟩
theorem Part.ok.later {w w' : World} {p : Part} (h : p.ok w) (hb : Below w.heap.size w w') : p.ok w' := ⟨h.1.later hb, h.2⟩
theorem Parts.later {w w' : World} {a : Option Addr} {ps : List Part} (h : Parts w a ps) (hb : Below w.heap.size w w') : Parts w' a ps := by
  refine ⟨?_, fun p hp => (h.2 p hp).later hb⟩
  rcases h.1 with h | ⟨b, off, ha, hc⟩
  · exact .inl h
  · refine .inr ⟨b, off, ha, fun i hi => ?_⟩
    have := hc i hi
    rw [hb.cell (World.block_lt_of_cell? w _ this)]
    exact this
theorem lit_parts (w : World) (ps : List Part) (t : TypeId) (g : Nat) (hg : g = w.heap.size) (h : ∀ p ∈ ps, p.ok w) : Parts (w.alloc (.cells (ps.map Part.val).toArray t)) (some ⟨g, 0, none⟩) ps := by
  refine ⟨.inr ⟨g, 0, rfl, fun i hi => ?_⟩, fun p hp => (h p hp).later ((Below.refl _ _).alloc (Nat.le_refl _) _)⟩
  rw [Nat.zero_add]
  simp [hi, hg]
theorem part_mem (ps : List Part) (k : Nat) (h : k < ps.length) : ps[k]?.getD noPart ∈ ps := by simp [h]
theorem parts_snoc (ps : List Part) (k : Nat) (h : k < ps.length) : allB (ps.take (k + 1)) = allB (ps.take k) ++ (ps[k]?.getD noPart).zs := by
  unfold allB
  rw [List.take_succ_eq_append_getElem h, List.flatMap_append]
  simp [h]
theorem allB_byte {w : World} {ps : List Part} (h : ∀ p ∈ ps, p.ok w) : ∀ c ∈ allB ps, 0 ≤ c ∧ c ≤ 255 := by
  intro c hc
  obtain ⟨p, hp, hcp⟩ := List.mem_flatMap.1 hc
  exact (h p hp).2.1 c hcp

end Go.Proofs.YteockpllnhjooaaGreatDoor

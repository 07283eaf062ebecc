/-
  What the clock's calls keep, for the walks of layer 8's laws.
-/
import Derived.Test.YtecijlgkadlmnaaHlcKit
namespace Go.Proofs.Ytecijlgkadlmnaa
open Go.RowKit NumMath
open StMath (St)
open HlcMath (Ck)
set_option maxRecDepth 100000
set_option linter.unusedVariables false
set_option linter.unusedSimpArgs false

theorem u16s {zs : List Int} (hw : ∀ n ∈ zs, (Lit.int .u16 n).wf = true) : ∀ c ∈ zs, 0 ≤ c ∧ c ≤ 65535 := fun c hc => bounds_u16 (hw c hc)
theorem u32s' {zs : List Int} (hw : ∀ n ∈ zs, (Lit.int .u32 n).wf = true) : ∀ c ∈ zs, 0 ≤ c ∧ c ≤ 4294967295 := fun c hc => bounds_u32 (hw c hc)
theorem peek_ok {c : Ck} (ho : HlcMath.Ok c) {now : Int} {s : St} (h : HlcMath.peek c now = (s, 0)) : HlcMath.Ok { c with s := s } ∧ s.r = c.s.r ∧ s.l ≤ c.m ∧ now ≤ s.p ∧ (c.s.p < s.p ∨ (c.s.p = s.p ∧ c.s.l < s.l)) ∧ s.p ≤ now + c.d ∧ 0 ≤ now := by
  unfold HlcMath.peek at h
  split at h
  · rename_i hp
    rw [HlcMath.isPhys_iff] at hp
    obtain ⟨p0, p1, l0, l1, r0, r1, m0, m1, d0, d1⟩ := ho
    unfold HlcMath.foll at h
    split at h
    · rename_i s' hf
      unfold HlcMath.lim at h
      split at h
      · simp at h
      · rename_i hl
        cases h
        repeat' split at hf
        all_goals first
          | (cases hf
             dsimp only at *
             exact ⟨⟨by dsimp only; omega, by dsimp only; omega, by dsimp only; omega, by dsimp only; omega, r0, r1, m0, m1, d0, d1⟩, rfl, by omega, by omega, by omega, by omega, by omega⟩)
          | (exact absurd hf (by simp))
    · simp at h
  · simp at h
theorem next_ok {c : Ck} (ho : HlcMath.Ok c) (now : Int) : HlcMath.Ok (HlcMath.next c now) := by
  obtain ⟨s, e, h⟩ : ∃ s e, HlcMath.peek c now = (s, e) := ⟨_, _, rfl⟩
  unfold HlcMath.next
  rw [h]
  dsimp only
  by_cases he : e = 0
  · subst he
    rw [if_pos rfl]
    exact (peek_ok ho h).1
  · rw [if_neg he]; exact ho
theorem raise_ok {c : Ck} (ho : HlcMath.Ok c) {p l : Int} (h0 : 0 ≤ p) (h1 : p ≤ 281474976710655) (h2 : 0 ≤ l) (h3 : l ≤ 65535) : HlcMath.Ok (HlcMath.raise c p l) := by
  unfold HlcMath.raise
  obtain ⟨p0, p1, l0, l1, r0, r1, m0, m1, d0, d1⟩ := ho
  split
  · exact ⟨h0, h1, h2, h3, r0, r1, m0, m1, d0, d1⟩
  · exact ⟨p0, p1, l0, l1, r0, r1, m0, m1, d0, d1⟩
theorem check_right {c : Ck} {now : Int} {s : St} (h : HlcMath.check c now s = 0) : StMath.right s = true ∧ s.p ≤ now + c.d := by
  unfold HlcMath.check at h
  repeat' split at h
  all_goals first
    | (simp at h; done)
    | (refine ⟨by assumption, by omega⟩)
theorem witness_ok {c : Ck} (ho : HlcMath.Ok c) (now : Int) (s : St) : HlcMath.Ok (HlcMath.witness c now s) := by
  unfold HlcMath.witness
  split
  · rename_i h
    obtain ⟨a0, a1, b0, b1, c0, c1⟩ := StMath.right_iff.1 (check_right h).1
    exact raise_ok ho a0 a1 b0 b1
  · exact ho
theorem floor_ok {c : Ck} (ho : HlcMath.Ok c) (p : Int) : HlcMath.Ok (HlcMath.floor c p) :=
  raise_ok ho (HlcMath.held_bd p).1 (HlcMath.held_bd p).2 ho.m0 ho.m1

/-- Between the worlds blocks g and gd alone have changed. -/
structure Two (w w' : World) (g gd : Nat) : Prop where
  os : w'.os = w.os
  tape : w'.tape = w.tape
  output : w'.output = w.output
  size : w.heap.size ≤ w'.heap.size
  block : ∀ k, k < w.heap.size → k ≠ g → k ≠ gd → w'.heap[k]? = w.heap[k]?
theorem Two.refl (w : World) (g gd : Nat) : Two w w g gd := ⟨rfl, rfl, rfl, Nat.le_refl _, fun _ _ _ _ => rfl⟩
theorem Two.below {w w1 w2 : World} {g gd : Nat} (h : Two w w1 g gd) (hb : Below w1.heap.size w1 w2) : Two w w2 g gd :=
  ⟨hb.os.trans h.os, hb.tape.trans h.tape, hb.output.trans h.output, Nat.le_trans h.size hb.size, fun k hk h1 h2 => (hb.block k (Nat.lt_of_lt_of_le hk h.size)).trans (h.block k hk h1 h2)⟩
theorem Two.alloc {w w1 : World} {g gd : Nat} (h : Two w w1 g gd) (o : Obj) : Two w (w1.alloc o) g gd := h.below ((Below.refl _ _).alloc (Nat.le_refl _) _)
theorem Two.new {w w1 : World} {g gd k : Nat} (h : Two w w1 g gd) (hk : w.heap.size ≤ k) (c : Array Value) : Two w (w1.setRow k c) g gd :=
  ⟨h.os, h.tape, h.output, by rw [setRow_size]; exact h.size, fun j hj h1 h2 => by rw [setRow_other w1 k j c (by omega)]; exact h.block j hj h1 h2⟩
theorem Two.left {w w1 w2 : World} {g gd : Nat} (h : Two w w1 g gd) (hg : w1.grownBy w2 (some g)) : Two w w2 g gd :=
  ⟨hg.os.trans h.os, hg.tape.trans h.tape, hg.output.trans h.output, Nat.le_trans h.size hg.size, fun k hk h1 h2 => (hg.block k (Nat.lt_of_lt_of_le hk h.size) (by intro e; injection e with e; exact h1 e)).trans (h.block k hk h1 h2)⟩
theorem Two.right {w w1 w2 : World} {g gd : Nat} (h : Two w w1 g gd) (hg : w1.grownBy w2 (some gd)) : Two w w2 g gd :=
  ⟨hg.os.trans h.os, hg.tape.trans h.tape, hg.output.trans h.output, Nat.le_trans h.size hg.size, fun k hk h1 h2 => (hg.block k (Nat.lt_of_lt_of_le hk h.size) (by intro e; injection e with e; exact h2 e)).trans (h.block k hk h1 h2)⟩
theorem Two.drew {w w1 : World} {g gd : Nat} (h : Two w w1 g gd) : Two w w1.drew g gd := ⟨h.os, h.tape, h.output, h.size, h.block⟩
theorem Two.trans {w w1 w2 : World} {g gd : Nat} (h : Two w w1 g gd) (h2 : Two w1 w2 g gd) : Two w w2 g gd :=
  ⟨h2.os.trans h.os, h2.tape.trans h.tape, h2.output.trans h.output, Nat.le_trans h.size h2.size, fun k hk h3 h4 => (h2.block k (Nat.lt_of_lt_of_le hk h.size) h3 h4).trans (h.block k hk h3 h4)⟩
theorem Below.two {B : Nat} {a w w' : World} {g gd : Nat} (h : Below B a w) (h2 : Two w w' g gd) (hB : B ≤ w.heap.size) (h3 : B ≤ g) (h4 : B ≤ gd) : Below B a w' :=
  ⟨h2.os.trans h.os, h2.tape.trans h.tape, h2.output.trans h.output, Nat.le_trans h.size h2.size, fun k hk => (h2.block k (by omega) (by omega) (by omega)).trans (h.block k hk)⟩
theorem Arr.two {w w' : World} {g gd k t : Nat} {l : List Value} (h : Arr w k t l) (h2 : Two w w' g gd) (h3 : k ≠ g) (h4 : k ≠ gd) : Arr w' k t l := by
  unfold Arr at *
  rw [h2.block k (Array.getElem?_eq_some_iff.1 h).1 h3 h4]
  exact h
theorem CkAt.two {w w' : World} {g gd k : Nat} {c : Ck} (h : CkAt w k c) (h2 : Two w w' g gd) (h3 : k ≠ g) (h4 : k ≠ gd) : CkAt w' k c := ⟨Arr.two h.arr h2 h3 h4⟩
theorem RkAt.drew {w : World} {g : Nat} {c : Ck} (h : RkAt w g c) : RkAt w.drew g c := ⟨h.arr⟩

/-- Something that is done with a clock. -/
structure Ac where
  k : Int
  n : Int
  s : St
def acL (a : Ac) : List Value := [.int .u8 a.k, .int .i64 a.n, .int .i64 a.s.p, .int .i64 a.s.l, .int .i64 a.s.r]
def acV (a : Ac) : Value := .agg #[.int .u8 a.k, .int .i64 a.n, .int .i64 a.s.p, .int .i64 a.s.l, .int .i64 a.s.r]
theorem acL_one (a : Ac) : ∀ v ∈ acL a, v.oneCell' = true := by
  intro v hv
  simp only [acL, List.mem_cons, List.not_mem_nil, or_false] at hv
  rcases hv with rfl | rfl | rfl | rfl | rfl <;> rfl
structure AcAt (w : World) (g : Nat) (a : Ac) : Prop where
  arr : Arr w g 34 (acL a)
theorem sizeAc : (Try.prog.info? 34).map (·.size) = some 5 := by kernel_rfl
def ac0 : Ac := ⟨0, 0, StMath.zero⟩
theorem AcAt.new (w : World) (a : Ac) {g : Nat} (hg : g = w.heap.size) : AcAt (w.alloc (.cells #[.int .u8 a.k, .int .i64 a.n, .int .i64 a.s.p, .int .i64 a.s.l, .int .i64 a.s.r] 34)) g a := ⟨Arr.new w _ (acL a) hg⟩
theorem AcAt.lt {w : World} {g : Nat} {a : Ac} (h : AcAt w g a) : g < w.heap.size := Arr.lt h.arr
theorem AcAt.later {w w' : World} {g : Nat} {a : Ac} {B : Nat} (h : AcAt w g a) (hb : Below B w w') (hg : g < B) : AcAt w' g a := ⟨Arr.later h.arr hb hg⟩
theorem AcAt.alloc {w : World} {g : Nat} {a : Ac} (h : AcAt w g a) (o : Obj) : AcAt (w.alloc o) g a := ⟨Arr.alloc h.arr o⟩
theorem AcAt.drew {w : World} {g : Nat} {a : Ac} (h : AcAt w g a) : AcAt w.drew g a := ⟨h.arr⟩
theorem AcAt.row {w : World} {g : Nat} {a a' : Ac} (h : AcAt w g a) : AcAt (w.setRow g (acL a').toArray) g a' := ⟨Arr.row h.arr⟩
theorem AcAt.row_other {w : World} {g g' : Nat} {a : Ac} (h : AcAt w g a) (cs : Array Value) (hg : g ≠ g') : AcAt (w.setRow g' cs) g a := ⟨Arr.row_other h.arr cs hg⟩
theorem AcAt.grown {w w' : World} {g k : Nat} {a : Ac} (h : AcAt w k a) (hg : w.grownBy w' (some g)) (hne : k ≠ g) : AcAt w' k a := ⟨Arr.grown h.arr hg hne⟩
theorem AcAt.two {w w' : World} {g gd k : Nat} {a : Ac} (h : AcAt w k a) (h2 : Two w w' g gd) (h3 : k ≠ g) (h4 : k ≠ gd) : AcAt w' k a := ⟨Arr.two h.arr h2 h3 h4⟩
theorem AcAt.cells {w : World} {g : Nat} {a : Ac} (h : AcAt w g a) :
    w.cell? ⟨g, 0, none⟩ = some (.int .u8 a.k) ∧ w.cell? ⟨g, 1, none⟩ = some (.int .i64 a.n) ∧ w.cell? ⟨g, 2, none⟩ = some (.int .i64 a.s.p) ∧ w.cell? ⟨g, 3, none⟩ = some (.int .i64 a.s.l) ∧ w.cell? ⟨g, 4, none⟩ = some (.int .i64 a.s.r) :=
  ⟨Arr.cell h.arr 0, Arr.cell h.arr 1, Arr.cell h.arr 2, Arr.cell h.arr 3, Arr.cell h.arr 4⟩
/-- What an act makes of a clock. -/
def stepA (c : Ck) (a : Ac) : Ck :=
  if a.k % 6 = 0 ∨ a.k % 6 = 1 then HlcMath.next c a.n else if a.k % 6 = 4 then HlcMath.witness c a.n a.s else if a.k % 6 = 5 then HlcMath.floor c a.n else c
theorem stepA_ok {c : Ck} (ho : HlcMath.Ok c) (a : Ac) : HlcMath.Ok (stepA c a) := by
  unfold stepA
  repeat' split
  · exact next_ok ho _
  · exact witness_ok ho _ _
  · exact floor_ok ho _
  · exact ho
theorem act_cases (c : Ck) (a : Ac) :
    ((a.k % 6 = 0 ∨ a.k % 6 = 1) ∧ Hid (stepA c a = HlcMath.next c a.n)) ∨ (a.k % 6 = 2 ∧ Hid (stepA c a = c)) ∨ (a.k % 6 = 3 ∧ Hid (stepA c a = c)) ∨ (a.k % 6 = 4 ∧ Hid (stepA c a = HlcMath.witness c a.n a.s)) ∨ (a.k % 6 = 5 ∧ Hid (stepA c a = HlcMath.floor c a.n)) := by
  unfold stepA Hid
  by_cases h0 : a.k % 6 = 0 ∨ a.k % 6 = 1
  · left; exact ⟨h0, by rw [if_pos h0]⟩
  right
  rw [if_neg h0]
  by_cases h4 : a.k % 6 = 4
  · right; right; left; exact ⟨h4, by rw [if_pos h4]⟩
  rw [if_neg h4]
  by_cases h5 : a.k % 6 = 5
  · right; right; right; exact ⟨h5, by rw [if_pos h5]⟩
  rw [if_neg h5]
  by_cases h2 : a.k % 6 = 2
  · left; exact ⟨h2, rfl⟩
  · right; left; exact ⟨by omega, rfl⟩
end Go.Proofs.Ytecijlgkadlmnaa

/-
  What DotTakes' region of literals, appends and calls keeps, whichever comes first.
-/
import Derived.Test.YtehaeepihjookaaL9Kit
import Derived.Test.YtehaeepihjookaaRegInvN
namespace Go.Proofs.Ytehaeepihjookaa
open Go.RowKit NumMath
open DotMath (Dt)
set_option maxRecDepth 100000
set_option linter.unusedVariables false
set_option linter.unusedSimpArgs false

theorem bytes_shape {w : World} {v : Value} {ys : List Int} (h : Bytes w v ys) : ∃ a l c, v = .slice a l c ∧ l = ys.length ∧ Bytes w (.slice a l c) ys := by
  obtain ⟨a, c, rfl, r⟩ := h
  exact ⟨a, ys.length, c, rfl, rfl, a, c, rfl, r⟩
theorem lit_bytes {w : World} {g : Nat} {q : Int} (h : Arr w g 5 [.int .u8 q]) (hq : 0 ≤ q ∧ q ≤ 255) : Bytes w (.slice (some ⟨g, 0, none⟩) 1 1) [q] :=
  ⟨some ⟨g, 0, none⟩, 1, rfl, row_arr (xs := [q]) h, by simpa using hq, by simp, by decide, by simp⟩
theorem dt_kept {w w' : World} {g : Nat} {d : Dt} (h : DtAt w g d) (hb : Below w.heap.size w w') : DtAt w' g d := h.later hb h.lt
theorem notOf {b c : Bool} (h : b = true → c = true) (hc : c = false) : b = false := by
  cases b with
  | false => rfl
  | true => rw [h rfl] at hc; cases hc
/-- Four slices of bytes that lie in a block of their own. -/
def Four (w : World) (G : Nat) : Prop := ∀ m, m < 4 → ∃ v ys, w.cell? ⟨G, m, none⟩ = some v ∧ Bytes w v ys
theorem Four.later {w w' : World} {G : Nat} (h : Four w G) (hb : Below w.heap.size w w') : Four w' G := fun m hm => by
  obtain ⟨v, ys, h1, h2⟩ := h m hm
  exact ⟨v, ys, by rw [hb.cell (World.block_lt_of_cell? w _ h1)]; exact h1, bytes_later h2 hb⟩
/-- A literal that lies in a block of its own, which the row x37 isn't. -/
structure LitQ (f2 : Bool) (x37 : Value) (w : World) (x : Value) (t : Nat) (ls : List Value) : Prop where
  ex : ∃ g, x = .slice (some ⟨g, 0, none⟩) 1 1 ∧ Arr w g t ls ∧ (f2 = true → x37.ownBlock ≠ some g)
theorem LitQ.below {f2 : Bool} {x37 : Value} {w w' : World} {x : Value} {t : Nat} {ls : List Value} (h : LitQ f2 x37 w x t ls) (hb : Below w.heap.size w w') : LitQ f2 x37 w' x t ls := by
  obtain ⟨g, h1, h2, h3⟩ := h.ex
  exact ⟨g, h1, Arr.later h2 hb h2.lt, h3⟩
theorem LitQ.new {f2 : Bool} {x37 y : Value} {w w' : World} {x : Value} {t : Nat} {ls : List Value} {zs : List Int} (h : LitQ f2 x37 w x t ls) (hb : Below w.heap.size w w') (ho : BOwn w' w.heap.size y zs) : LitQ true y w' x t ls := by
  obtain ⟨g, h1, h2, h3⟩ := h.ex
  exact ⟨g, h1, Arr.later h2 hb h2.lt, fun _ e => by have := (ho.own.lt g e).1; have := h2.lt; omega⟩

structure RJ (w3 : World) (pz pt : List Int) (c11 c15 : Value) (u64 : Nat) (f2 f4 f9 f11 f15 f16 f17 : Bool) (w : World) (x37 x39 x44 x46 x50 x51 x52 : Value) : Prop where
  bel : Below w3.heap.size w3 w
  o4 : f4 = true → f2 = true
  o9 : f9 = true → f4 = true
  o16 : f16 = true → f9 = true
  o17 : f17 = true → f16 = true
  h2 : f2 = true → (f4 = false → ∃ B, BOwn w B x37 pz ∧ B ≤ w.heap.size ∧ w3.heap.size ≤ B) ∧ ∀ k, x37.ownBlock = some k → k < w.heap.size
  h4 : f4 = true → Bytes w x39 pt
  h9 : f9 = true → ∃ y, Bytes w x44 y
  h11 : f11 = true → LitQ f2 x37 w x46 5 [c11]
  h15 : f15 = true → LitQ f2 x37 w x50 u64 [c15]
  h16 : f16 = true → ∃ y, Bytes w x51 y
  h17 : f17 = true → ∃ G, x52 = .slice (some ⟨G, 0, none⟩) 4 4 ∧ Four w G

section
variable {w3 : World} {pz pt : List Int} {c11 c15 : Value} {u64 : Nat} {f2 f4 f9 f11 f15 f16 f17 : Bool} {w w' : World} {x37 x39 x44 x46 x50 x51 x52 : Value}
theorem RJ.below (h : RJ w3 pz pt c11 c15 u64 f2 f4 f9 f11 f15 f16 f17 w x37 x39 x44 x46 x50 x51 x52) (hb : Below w.heap.size w w') : RJ w3 pz pt c11 c15 u64 f2 f4 f9 f11 f15 f16 f17 w' x37 x39 x44 x46 x50 x51 x52 where
  bel := h.bel.trans (hb.mono h.bel.size)
  o4 := h.o4
  o9 := h.o9
  o16 := h.o16
  o17 := h.o17
  h2 := fun e => by
    obtain ⟨p, q⟩ := h.h2 e
    have hz := hb.size
    refine ⟨fun e4 => ?_, fun k hk => by have := q k hk; omega⟩
    obtain ⟨B, r, s, t⟩ := p e4
    exact ⟨B, r.later hb, by omega, t⟩
  h4 := fun e => bytes_later (h.h4 e) hb
  h9 := fun e => by obtain ⟨y, r⟩ := h.h9 e; exact ⟨y, bytes_later r hb⟩
  h11 := fun e => (h.h11 e).below hb
  h15 := fun e => (h.h15 e).below hb
  h16 := fun e => by obtain ⟨y, r⟩ := h.h16 e; exact ⟨y, bytes_later r hb⟩
  h17 := fun e => by obtain ⟨G, r, s⟩ := h.h17 e; exact ⟨G, r, s.later hb⟩
theorem RJ.init (hb : Below w3.heap.size w3 w) : RJ w3 pz pt c11 c15 u64 false false false false false false false w x37 x39 x44 x46 x50 x51 x52 :=
  ⟨hb, (fun e => by cases e), (fun e => by cases e), (fun e => by cases e), (fun e => by cases e), (fun e => by cases e), (fun e => by cases e), (fun e => by cases e), (fun e => by cases e), (fun e => by cases e), (fun e => by cases e), (fun e => by cases e)⟩
theorem RJ.set2 (h : RJ w3 pz pt c11 c15 u64 false f4 f9 f11 f15 f16 f17 w x37 x39 x44 x46 x50 x51 x52) (hb : Below w.heap.size w w') {y : Value} (ho : BOwn w' w.heap.size y pz) : RJ w3 pz pt c11 c15 u64 true f4 f9 f11 f15 f16 f17 w' y x39 x44 x46 x50 x51 x52 :=
  let g := h.below hb
  { g with
    o4 := fun _ => rfl
    h2 := fun _ => ⟨fun _ => ⟨_, ho, hb.size, h.bel.size⟩, fun k hk => (ho.own.lt k hk).2⟩
    h11 := fun e => (h.h11 e).new hb ho
    h15 := fun e => (h.h15 e).new hb ho }
theorem LitQ.grown {x : Value} {t : Nat} {ls : List Value} (h : LitQ true x37 w x t ls) (hg : w.grownBy w' x37.ownBlock) : LitQ true x37 w' x t ls := by
  obtain ⟨g, h1, h2, h3⟩ := h.ex
  exact ⟨g, h1, arr_kept h2 hg (h3 rfl), h3⟩
theorem RJ.set4 (h : RJ w3 pz pt c11 c15 u64 true false f9 f11 f15 f16 f17 w x37 x39 x44 x46 x50 x51 x52) (hg : w.grownBy w' x37.ownBlock) {y : Value} (ho : Bytes w' y pt) : RJ w3 pz pt c11 c15 u64 true true f9 f11 f15 f16 f17 w' x37 y x44 x46 x50 x51 x52 := by
  have e9 : f9 = false := notOf h.o9 rfl
  have e16 : f16 = false := notOf h.o16 e9
  have e17 : f17 = false := notOf h.o17 e16
  subst e9 e16 e17
  obtain ⟨B, hB, hBs, hB3⟩ := (h.h2 rfl).1 rfl
  exact ⟨h.bel.grown hg h.bel.size (fun k hk => Nat.le_trans hB3 (hB.ge k hk)), fun _ => rfl, (fun e => by cases e), (fun e => by cases e), (fun e => by cases e), fun _ => ⟨(fun e => by cases e), fun k hk => Nat.lt_of_lt_of_le ((h.h2 rfl).2 k hk) hg.size⟩, fun _ => ho, (fun e => by cases e), fun e => (h.h11 e).grown hg, fun e => (h.h15 e).grown hg, (fun e => by cases e), (fun e => by cases e)⟩
theorem RJ.set9 (h : RJ w3 pz pt c11 c15 u64 f2 true f9 f11 f15 f16 f17 w x37 x39 x44 x46 x50 x51 x52) (hb : Below w.heap.size w w') {y : Value} {ys : List Int} (ho : Bytes w' y ys) : RJ w3 pz pt c11 c15 u64 f2 true true f11 f15 f16 f17 w' x37 x39 y x46 x50 x51 x52 :=
  let g := h.below hb
  { g with
    o9 := fun _ => rfl
    o16 := fun _ => rfl
    h9 := fun _ => ⟨ys, ho⟩ }
theorem RJ.lit11 (h : RJ w3 pz pt c11 c15 u64 f2 f4 f9 f11 f15 f16 f17 w x37 x39 x44 x46 x50 x51 x52) : RJ w3 pz pt c11 c15 u64 f2 f4 f9 true f15 f16 f17 (w.alloc (.cells #[c11] 5)) x37 x39 x44 (.slice (some ⟨w.heap.size, 0, none⟩) 1 1) x50 x51 x52 :=
  let g := h.below ((Below.refl _ w).alloc (Nat.le_refl _) (.cells #[c11] 5))
  { g with h11 := fun _ => ⟨w.heap.size, rfl, Arr.new w 5 [c11] rfl, fun e hk => by have := (h.h2 e).2 _ hk; omega⟩ }
theorem RJ.lit15 (h : RJ w3 pz pt c11 c15 u64 f2 f4 f9 f11 f15 f16 f17 w x37 x39 x44 x46 x50 x51 x52) : RJ w3 pz pt c11 c15 u64 f2 f4 f9 f11 true f16 f17 (w.alloc (.cells #[c15] u64)) x37 x39 x44 x46 (.slice (some ⟨w.heap.size, 0, none⟩) 1 1) x51 x52 :=
  let g := h.below ((Below.refl _ w).alloc (Nat.le_refl _) (.cells #[c15] u64))
  { g with h15 := fun _ => ⟨w.heap.size, rfl, Arr.new w u64 [c15] rfl, fun e hk => by have := (h.h2 e).2 _ hk; omega⟩ }
theorem RJ.set16 (h : RJ w3 pz pt c11 c15 u64 f2 f4 true f11 f15 f16 f17 w x37 x39 x44 x46 x50 x51 x52) (hb : Below w.heap.size w w') {y : Value} {ys : List Int} (ho : Bytes w' y ys) : RJ w3 pz pt c11 c15 u64 f2 f4 true f11 f15 true f17 w' x37 x39 x44 x46 x50 y x52 :=
  let g := h.below hb
  { g with
    o16 := fun _ => rfl
    o17 := fun _ => rfl
    h16 := fun _ => ⟨ys, ho⟩ }
theorem RJ.set17 (h : RJ w3 pz pt c11 c15 u64 f2 f4 f9 f11 f15 true f17 w x37 x39 x44 x46 x50 x51 x52) (hb : Below w.heap.size w w') {G : Nat} (ho : Four w' G) : RJ w3 pz pt c11 c15 u64 f2 f4 f9 f11 f15 true true w' x37 x39 x44 x46 x50 x51 (.slice (some ⟨G, 0, none⟩) 4 4) :=
  let g := h.below hb
  { g with
    o17 := fun _ => rfl
    h17 := fun _ => ⟨G, rfl, ho⟩ }
end
end Go.Proofs.Ytehaeepihjookaa

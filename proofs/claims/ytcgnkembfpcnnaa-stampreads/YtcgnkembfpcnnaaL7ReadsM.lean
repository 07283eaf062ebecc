/-
  What StampReads' region of literals and appends keeps, whichever comes first.
-/
import Derived.Test.YtcgnkembfpcnnaaFnStD
import Derived.Test.YtcgnkembfpcnnaaRegInvN
namespace Go.Proofs.Ytcgnkembfpcnnaa
open Go.RowKit NumMath
set_option maxRecDepth 100000
set_option linter.unusedVariables false
set_option linter.unusedSimpArgs false

theorem wp_append_own_any {P : Program} {w : World} {o : Oper} {a : Act} {K : Act → World → Prop} {Q : Exit → Act → World → Prop} (s x : Operand) (t : TypeId)
    (ho : o.op = .call { callee := .builtin .append, args := #[s, x], argTypes := #[t, t] })
    (base : Nat) (e : TypeId) (i : TypeInfo) (z : Value) (size bytes : Nat) (ht : P.underlying t = some (.slice e)) (hi : P.info? e = some i) (hz : i.zero = some z)
    (hsize : i.size = size) (hby : i.bytes = bytes) (hzs : z.cells.size = size) (hsz : 0 < size)
    (v : Value) (n : Nat) (xs : List Value) (hs : a.eval s = v) (hown : w.ownsRow base e size v n xs)
    (ao : Option Addr) (m c : Nat) (news : List Value) (hx : a.eval x = .slice ao m c) (hl : news.length = m * size) (hnone : ao = none → m = 0 ∧ c = 0)
    (hnews : ∀ ad, ao = some ad → ∀ j u, news[j]? = some u → w.cell? (ad.add j) = some u) (h1 : ∀ u ∈ news, u.oneCell' = true)
    (h63 : n + m ≤ maxLen) (hbytes : (n + m) * bytes ≤ 140737488355328) (hbase : base ≤ w.heap.size)
    (h : ∀ v' w', w'.ownsRow base e size v' (n + m) (xs ++ news) → w.grownBy w' v.ownBlock → K (a.put o.dst v') w') : o.wp P a w K Q := by
  cases ao with
  | some ad => exact wp_append_own w s x t ho base e i z size bytes ht hi hz hsize hby hzs hsz v n xs hs hown ad m c news hx hl (hnews ad rfl) h1 h63 hbytes hbase (fun v' w' h2 h3 _ => h v' w' h2 h3)
  | none =>
    obtain ⟨rfl, rfl⟩ := hnone rfl
    have hn0 : news = [] := List.eq_nil_of_length_eq_zero (by simpa using hl)
    subst hn0
    have hrun := run_append_owned_none (P := P) (w := w) base t o.type e i size ht hi v n xs hown
    unfold Oper.wp
    simp [execOp, ho, resolve, invoke, builtin, hs, hx, hrun, Result.andThen]
    exact h v w (by simpa using hown) (World.grownBy.refl _ _)
theorem arr_grown {w w' : World} {g t : Nat} {l : List Value} {row : Option Nat} (h : Arr w g t l) (hg : w.grownBy w' row) (hr : row ≠ some g) : Arr w' g t l := by
  unfold Arr
  rw [hg.block g h.lt (fun e => hr e.symm)]
  exact h
theorem grown_below {w w' : World} (h : w.grownBy w' none) : Below w.heap.size w w' := (Below.refl _ _).grown h (Nat.le_refl _) (fun k hk => by cases hk)
theorem Bytes_later {w w' : World} {v : Value} {ys : List Int} (h : Bytes w v ys) (hb : Below w.heap.size w w') : Bytes w' v ys := by
  obtain ⟨a, c, hv, hr, r⟩ := h
  exact ⟨a, c, hv, hr.later hb, r⟩

/-- A literal that lies in a block of its own. -/
structure LitP (f2 f10 : Bool) (x15 x23 : Value) (w : World) (x : Value) (k : Nat) (ls : List Value) : Prop where
  ex : ∃ g, x = .slice (some ⟨g, 0, none⟩) k k ∧ Arr w g 5 ls ∧ (f2 = true → x15.ownBlock ≠ some g) ∧ (f10 = true → x23.ownBlock ≠ some g)
theorem LitP.below {f2 f10 : Bool} {x15 x23 : Value} {w w' : World} {x : Value} {k : Nat} {ls : List Value} (h : LitP f2 f10 x15 x23 w x k ls) (hb : Below w.heap.size w w') : LitP f2 f10 x15 x23 w' x k ls := by
  obtain ⟨g, h1, h2, h3, h4⟩ := h.ex
  exact ⟨g, h1, Arr.later h2 hb h2.lt, h3, h4⟩
theorem LitP.new2 {f2 f10 : Bool} {x15 x15' x23 : Value} {w w' : World} {x : Value} {k n : Nat} {ls zs : List Value} (h : LitP f2 f10 x15 x23 w x k ls) (hb : Below w.heap.size w w') (ho : w'.ownsRow w.heap.size 5 1 x15' n zs) : LitP true f10 x15' x23 w' x k ls := by
  obtain ⟨g, h1, h2, h3, h4⟩ := h.ex
  exact ⟨g, h1, Arr.later h2 hb h2.lt, fun _ e => by have := (ho.lt g e).1; have := h2.lt; omega, h4⟩
theorem LitP.new10 {f2 f10 : Bool} {x15 x23 x23' : Value} {w w' : World} {x : Value} {k n : Nat} {ls zs : List Value} (h : LitP f2 f10 x15 x23 w x k ls) (hb : Below w.heap.size w w') (ho : w'.ownsRow w.heap.size 5 1 x23' n zs) : LitP f2 true x15 x23' w' x k ls := by
  obtain ⟨g, h1, h2, h3, h4⟩ := h.ex
  exact ⟨g, h1, Arr.later h2 hb h2.lt, h3, fun _ e => by have := (ho.lt g e).1; have := h2.lt; omega⟩

structure RI (w1 : World) (L m : Nat) (Z E11 E8 : List Value) (cn va : Value) (U : Nat) (f2 f3 f4 f8 f9 f10 f12 f13 f14 : Bool) (w : World) (x15 x16 x17 x21 x22 x23 x25 x26 x27 : Value) : Prop where
  bel : Below w1.heap.size w1 w
  o4 : f4 = true → f2 = true
  o8 : f8 = true → f4 = true
  o10 : f10 = true → f4 = true
  o13 : f13 = true → f10 = true
  o14 : f14 = true → f13 = true ∧ f8 = true
  h2 : f2 = true → (f4 = false → ∃ B, w.ownsRow B 5 1 x15 L Z ∧ B ≤ w.heap.size) ∧ ∀ k, x15.ownBlock = some k → w1.heap.size ≤ k ∧ k < w.heap.size
  h3 : f3 = true → LitP f2 f10 x15 x23 w x16 11 E11
  h9 : f9 = true → LitP f2 f10 x15 x23 w x22 8 E8
  h12 : f12 = true → LitP f2 f10 x15 x23 w x25 1 [cn]
  h4 : f4 = true → ∃ g q B, x17 = .slice (some ⟨g, 0, none⟩) (L + 11) q ∧ w.ownsRow B 5 1 x17 (L + 11) (Z ++ E11) ∧ L + 11 ≤ q ∧ q ≤ maxLen ∧ (f10 = true → x23.ownBlock ≠ some g)
  h8 : f8 = true → ∃ g q, x17 = .slice (some ⟨g, 0, none⟩) (L + 11) q ∧ x21 = .slice (some ⟨g, 0, none⟩) m q
  h10 : f10 = true → (f13 = false → ∃ B, w.ownsRow B 5 1 x23 8 E8 ∧ B ≤ w.heap.size) ∧ ∀ k, x23.ownBlock = some k → w1.heap.size ≤ k ∧ k < w.heap.size
  h13 : f13 = true → ∃ B, w.ownsRow B 5 1 x26 9 (E8 ++ [cn])
  h14 : f14 = true → ∃ G, x27 = .slice (some ⟨G, 0, none⟩) 3 3 ∧ Arr w G U [va, x21, x26]

section
variable {w1 : World} {L m : Nat} {Z E11 E8 : List Value} {cn va : Value} {U : Nat} {f2 f3 f4 f8 f9 f10 f12 f13 f14 : Bool} {w w' : World} {x15 x16 x17 x21 x22 x23 x25 x26 x27 : Value}

theorem not_of {b c : Bool} (h : b = true → c = true) (hc : c = false) : b = false := by
  cases b with
  | false => rfl
  | true => rw [h rfl] at hc; cases hc
theorem RI.below (h : RI w1 L m Z E11 E8 cn va U f2 f3 f4 f8 f9 f10 f12 f13 f14 w x15 x16 x17 x21 x22 x23 x25 x26 x27) (hb : Below w.heap.size w w') :
    RI w1 L m Z E11 E8 cn va U f2 f3 f4 f8 f9 f10 f12 f13 f14 w' x15 x16 x17 x21 x22 x23 x25 x26 x27 where
  bel := h.bel.trans (hb.mono h.bel.size)
  o4 := h.o4
  o8 := h.o8
  o10 := h.o10
  o13 := h.o13
  o14 := h.o14
  h2 := fun e => by
    obtain ⟨p, q⟩ := h.h2 e
    have hz := hb.size
    refine ⟨fun e4 => ?_, fun k hk => by have := q k hk; omega⟩
    obtain ⟨B, r, s⟩ := p e4
    exact ⟨B, owns_later r hb, by omega⟩
  h3 := fun e => (h.h3 e).below hb
  h9 := fun e => (h.h9 e).below hb
  h12 := fun e => (h.h12 e).below hb
  h4 := fun e => by
    obtain ⟨g, q, B, a1, a2, a3, a4, a5⟩ := h.h4 e
    exact ⟨g, q, B, a1, owns_later a2 hb, a3, a4, a5⟩
  h8 := h.h8
  h10 := fun e => by
    obtain ⟨p, q⟩ := h.h10 e
    have hz := hb.size
    refine ⟨fun e4 => ?_, fun k hk => by have := q k hk; omega⟩
    obtain ⟨B, r, s⟩ := p e4
    exact ⟨B, owns_later r hb, by omega⟩
  h13 := fun e => by
    obtain ⟨B, r⟩ := h.h13 e
    exact ⟨B, owns_later r hb⟩
  h14 := fun e => by
    obtain ⟨G, r, s⟩ := h.h14 e
    exact ⟨G, r, Arr.later s hb s.lt⟩
/-- A new literal. -/
theorem RI.fresh (h : RI w1 L m Z E11 E8 cn va U f2 f3 f4 f8 f9 f10 f12 f13 f14 w x15 x16 x17 x21 x22 x23 x25 x26 x27) (k : Nat) (ls : List Value) :
    LitP f2 f10 x15 x23 (w.alloc (.cells ls.toArray 5)) (.slice (some ⟨w.heap.size, 0, none⟩) k k) k ls :=
  ⟨w.heap.size, rfl, Arr.new w 5 ls rfl, fun e hk => by have := (h.h2 e).2 _ hk; omega, fun e hk => by have := (h.h10 e).2 _ hk; omega⟩
theorem RI.set2 (h : RI w1 L m Z E11 E8 cn va U false f3 f4 f8 f9 f10 f12 f13 f14 w x15 x16 x17 x21 x22 x23 x25 x26 x27) (hb : Below w.heap.size w w') {y : Value} (ho : w'.ownsRow w.heap.size 5 1 y L Z) :
    RI w1 L m Z E11 E8 cn va U true f3 f4 f8 f9 f10 f12 f13 f14 w' y x16 x17 x21 x22 x23 x25 x26 x27 :=
  let g := h.below hb
  { g with
    o4 := fun _ => rfl
    h2 := fun _ => ⟨fun _ => ⟨_, ho, hb.size⟩, fun k hk => by have := ho.lt k hk; have := h.bel.size; omega⟩
    h3 := fun e => (h.h3 e).new2 hb ho
    h9 := fun e => (h.h9 e).new2 hb ho
    h12 := fun e => (h.h12 e).new2 hb ho }
theorem RI.set10 (h : RI w1 L m Z E11 E8 cn va U f2 f3 true f8 f9 false f12 f13 f14 w x15 x16 x17 x21 x22 x23 x25 x26 x27) (hb : Below w.heap.size w w') {y : Value} (ho : w'.ownsRow w.heap.size 5 1 y 8 E8) :
    RI w1 L m Z E11 E8 cn va U f2 f3 true f8 f9 true f12 f13 f14 w' x15 x16 x17 x21 x22 y x25 x26 x27 :=
  let g := h.below hb
  { g with
    o10 := fun _ => rfl
    o13 := fun _ => rfl
    h3 := fun e => (h.h3 e).new10 hb ho
    h9 := fun e => (h.h9 e).new10 hb ho
    h12 := fun e => (h.h12 e).new10 hb ho
    h4 := fun e => by
      obtain ⟨g, q, B, a1, a2, a3, a4, a5⟩ := h.h4 e
      refine ⟨g, q, B, a1, owns_later a2 hb, a3, a4, fun _ hk => ?_⟩
      have := (ho.lt g hk).1
      have := (a2.lt g (by rw [a1]; rfl)).2
      omega
    h10 := fun _ => ⟨fun _ => ⟨_, ho, hb.size⟩, fun k hk => by have := ho.lt k hk; have := h.bel.size; omega⟩ }
theorem LitP.grown {x : Value} {k : Nat} {ls : List Value} (h : LitP f2 f10 x15 x23 w x k ls) {row : Option Nat} (hg : w.grownBy w' row) (hr : ∀ g, (f2 = true → x15.ownBlock ≠ some g) → (f10 = true → x23.ownBlock ≠ some g) → row ≠ some g) : LitP f2 f10 x15 x23 w' x k ls := by
  obtain ⟨g, h1, h2, h3, h4⟩ := h.ex
  exact ⟨g, h1, arr_grown h2 hg (hr g h3 h4), h3, h4⟩
theorem RI.set4 (h : RI w1 L m Z E11 E8 cn va U true f3 false f8 f9 f10 f12 f13 f14 w x15 x16 x17 x21 x22 x23 x25 x26 x27) (hg : w.grownBy w' x15.ownBlock) {y : Value} {B : Nat} (ho : w'.ownsRow B 5 1 y (L + 11) (Z ++ E11)) :
    RI w1 L m Z E11 E8 cn va U true f3 true f8 f9 f10 f12 f13 f14 w' x15 x16 y x21 x22 x23 x25 x26 x27 := by
  have e10 : f10 = false := not_of h.o10 rfl
  have e13 : f13 = false := not_of h.o13 e10
  have e8 : f8 = false := not_of h.o8 rfl
  have e14 : f14 = false := by
    cases f14 with
    | false => rfl
    | true => have := (h.o14 rfl).1; rw [e13] at this; cases this
  subst e10 e13 e8 e14
  have hl := fun g (p : true = true → x15.ownBlock ≠ some g) (_ : false = true → x23.ownBlock ≠ some g) => p rfl
  refine ⟨h.bel.grown hg h.bel.size (fun k hk => ((h.h2 rfl).2 k hk).1), fun _ => rfl, (fun e => by cases e), (fun e => by cases e), (fun e => by cases e), (fun e => by cases e), fun _ => ⟨(fun e => by cases e), fun k hk => ?_⟩, fun e => (h.h3 e).grown hg hl, fun e => (h.h9 e).grown hg hl, fun e => (h.h12 e).grown hg hl, fun _ => ?_, (fun e => by cases e), (fun e => by cases e), (fun e => by cases e), (fun e => by cases e)⟩
  · have := (h.h2 rfl).2 k hk
    have := hg.size
    omega
  · obtain ⟨g, q, rfl, h1, h2, h3⟩ := own_some ho (by omega)
    exact ⟨g, q, B, rfl, ho, h2, h3, (fun e => by cases e)⟩
theorem RI.set13 (h : RI w1 L m Z E11 E8 cn va U f2 f3 f4 f8 f9 true f12 false f14 w x15 x16 x17 x21 x22 x23 x25 x26 x27) (hg : w.grownBy w' x23.ownBlock) {y : Value} {B : Nat} (ho : w'.ownsRow B 5 1 y 9 (E8 ++ [cn])) :
    RI w1 L m Z E11 E8 cn va U f2 f3 f4 f8 f9 true f12 true f14 w' x15 x16 x17 x21 x22 x23 x25 y x27 := by
  have e14 : f14 = false := by
    cases f14 with
    | false => rfl
    | true => have := (h.o14 rfl).1; cases this
  have e4 : f4 = true := h.o10 rfl
  subst e14 e4
  have hl := fun g (_ : f2 = true → x15.ownBlock ≠ some g) (p : true = true → x23.ownBlock ≠ some g) => p rfl
  refine ⟨h.bel.grown hg h.bel.size (fun k hk => ((h.h10 rfl).2 k hk).1), h.o4, h.o8, h.o10, fun _ => rfl, (fun e => by cases e), fun e2 => ⟨(fun e => by cases e), fun k hk => ?_⟩, fun e => (h.h3 e).grown hg hl, fun e => (h.h9 e).grown hg hl, fun e => (h.h12 e).grown hg hl, fun e => ?_, h.h8, fun _ => ⟨(fun e => by cases e), fun k hk => ?_⟩, fun _ => ⟨B, ho⟩, (fun e => by cases e)⟩
  · have := (h.h2 e2).2 k hk
    have := hg.size
    omega
  · obtain ⟨g, q, B, rfl, a2, a3, a4, a5⟩ := h.h4 e
    exact ⟨g, q, B, rfl, own_kept a2 hg (fun k hk hkg => a5 rfl (by rw [hk, hkg])), a3, a4, a5⟩
  · have := (h.h10 rfl).2 k hk
    have := hg.size
    omega
theorem RI.set8 (h : RI w1 L m Z E11 E8 cn va U f2 f3 true false f9 f10 f12 f13 f14 w x15 x16 x17 x21 x22 x23 x25 x26 x27) {g q : Nat} (e : x17 = .slice (some ⟨g, 0, none⟩) (L + 11) q) :
    RI w1 L m Z E11 E8 cn va U f2 f3 true true f9 f10 f12 f13 f14 w x15 x16 x17 (.slice (some ⟨g, 0, none⟩) m q) x22 x23 x25 x26 x27 := by
  have e14 : f14 = false := by
    cases f14 with
    | false => rfl
    | true => have := (h.o14 rfl).2; cases this
  subst e14
  exact { h with o8 := fun _ => rfl, o14 := (fun e => by cases e), h8 := fun _ => ⟨g, q, e, rfl⟩, h14 := (fun e => by cases e) }
theorem RI.init (hb : Below w1.heap.size w1 w) : RI w1 L m Z E11 E8 cn va U false false false false false false false false false w x15 x16 x17 x21 x22 x23 x25 x26 x27 :=
  ⟨hb, (fun e => by cases e), (fun e => by cases e), (fun e => by cases e), (fun e => by cases e), (fun e => by cases e), (fun e => by cases e), (fun e => by cases e), (fun e => by cases e), (fun e => by cases e), (fun e => by cases e), (fun e => by cases e), (fun e => by cases e), (fun e => by cases e), (fun e => by cases e)⟩
theorem alloc_below (w : World) (o : Obj) : Below w.heap.size w (w.alloc o) := (Below.refl _ _).alloc (Nat.le_refl _) _
theorem RI.lit3 (h : RI w1 L m Z E11 E8 cn va U f2 f3 f4 f8 f9 f10 f12 f13 f14 w x15 x16 x17 x21 x22 x23 x25 x26 x27) : RI w1 L m Z E11 E8 cn va U f2 true f4 f8 f9 f10 f12 f13 f14 (w.alloc (.cells E11.toArray 5)) x15 (.slice (some ⟨w.heap.size, 0, none⟩) 11 11) x17 x21 x22 x23 x25 x26 x27 :=
  let g := h.below (alloc_below w (.cells E11.toArray 5))
  { g with h3 := fun _ => h.fresh 11 E11 }
theorem RI.lit9 (h : RI w1 L m Z E11 E8 cn va U f2 f3 f4 f8 f9 f10 f12 f13 f14 w x15 x16 x17 x21 x22 x23 x25 x26 x27) : RI w1 L m Z E11 E8 cn va U f2 f3 f4 f8 true f10 f12 f13 f14 (w.alloc (.cells E8.toArray 5)) x15 x16 x17 x21 (.slice (some ⟨w.heap.size, 0, none⟩) 8 8) x23 x25 x26 x27 :=
  let g := h.below (alloc_below w (.cells E8.toArray 5))
  { g with h9 := fun _ => h.fresh 8 E8 }
theorem RI.lit12 (h : RI w1 L m Z E11 E8 cn va U f2 f3 f4 f8 f9 f10 f12 f13 f14 w x15 x16 x17 x21 x22 x23 x25 x26 x27) : RI w1 L m Z E11 E8 cn va U f2 f3 f4 f8 f9 f10 true f13 f14 (w.alloc (.cells #[cn] 5)) x15 x16 x17 x21 x22 x23 (.slice (some ⟨w.heap.size, 0, none⟩) 1 1) x26 x27 :=
  let g := h.below (alloc_below w (.cells #[cn] 5))
  { g with h12 := fun _ => h.fresh 1 [cn] }
theorem RI.set14 (h : RI w1 L m Z E11 E8 cn va U f2 f3 f4 true f9 f10 f12 true f14 w x15 x16 x17 x21 x22 x23 x25 x26 x27) : RI w1 L m Z E11 E8 cn va U f2 f3 f4 true f9 f10 f12 true true (w.alloc (.cells #[va, x21, x26] U)) x15 x16 x17 x21 x22 x23 x25 x26 (.slice (some ⟨w.heap.size, 0, none⟩) 3 3) :=
  let g := h.below (alloc_below w (.cells #[va, x21, x26] U))
  { g with o14 := fun _ => ⟨rfl, rfl⟩, h14 := fun _ => ⟨w.heap.size, rfl, Arr.new w U [va, x21, x26] rfl⟩ }
end
end Go.Proofs.Ytcgnkembfpcnnaa

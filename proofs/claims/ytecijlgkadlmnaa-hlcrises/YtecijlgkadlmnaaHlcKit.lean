/-
  A hybrid clock in memory (the program's and the reference's), a part of a block stored, masks of signed numbers.
-/
import Derived.Test.YtecijlgkadlmnaaStRow
import Derived.Test.YtecijlgkadlmnaaHlcMath
import Derived.Laws.BitsLemmas
namespace Go.Proofs.Ytecijlgkadlmnaa
open Go.RowKit NumMath
open StMath (St)
open HlcMath (Ck)
set_option maxRecDepth 100000
set_option linter.unusedVariables false
set_option linter.unusedSimpArgs false

/-- Two stamps are the same. -/
def eqT (a b : St) : Bool := a.p == b.p && (a.l == b.l && a.r == b.r)
theorem eqT_iff {a b : St} : eqT a b = true ↔ a = b := by
  rw [StMath.St.eq_iff]; simp [eqT]
theorem eqT_self (a : St) : eqT a a = true := eqT_iff.2 rfl
theorem eqT_no {a b : St} (h : ¬ a = b) : eqT a b = false := by
  cases e : eqT a b
  · rfl
  · exact absurd (eqT_iff.1 e) h
theorem eqT_cases (a b : St) : ((a.p == b.p) = false ∧ Hid (eqT a b = false)) ∨ ((a.p == b.p) = true ∧ (a.l == b.l) = false ∧ Hid (eqT a b = false)) ∨ ((a.p == b.p) = true ∧ (a.l == b.l) = true ∧ (a.r == b.r) = false ∧ Hid (eqT a b = false)) ∨ ((a.p == b.p) = true ∧ (a.l == b.l) = true ∧ (a.r == b.r) = true ∧ Hid (eqT a b = true)) := by
  unfold Hid eqT
  cases h1 : (a.p == b.p) <;> cases h2 : (a.l == b.l) <;> cases h3 : (a.r == b.r) <;> simp
def ckL (c : Ck) : List Value := [.int .i64 c.s.p, .int .i64 c.s.l, .int .i64 c.s.r, .int .i64 c.m, .int .i64 c.d]
def rkL (c : Ck) : List Value := [.int .i64 c.m, .int .i64 c.d, .int .i64 c.s.p, .int .i64 c.s.l, .int .i64 c.s.r]
/-- The program's clock in block g. -/
structure CkAt (w : World) (g : Nat) (c : Ck) : Prop where
  arr : Arr w g 56 (ckL c)
/-- The reference's clock in block g. -/
structure RkAt (w : World) (g : Nat) (c : Ck) : Prop where
  arr : Arr w g 58 (rkL c)
theorem CkAt.lt {w : World} {g : Nat} {c : Ck} (h : CkAt w g c) : g < w.heap.size := Arr.lt h.arr
theorem RkAt.lt {w : World} {g : Nat} {c : Ck} (h : RkAt w g c) : g < w.heap.size := Arr.lt h.arr
theorem CkAt.new (w : World) (c : Ck) {g : Nat} (hg : g = w.heap.size) : CkAt (w.alloc (.cells #[.int .i64 c.s.p, .int .i64 c.s.l, .int .i64 c.s.r, .int .i64 c.m, .int .i64 c.d] 56)) g c := ⟨Arr.new w _ (ckL c) hg⟩
theorem RkAt.new (w : World) (c : Ck) {g : Nat} (hg : g = w.heap.size) : RkAt (w.alloc (.cells #[.int .i64 c.m, .int .i64 c.d, .int .i64 c.s.p, .int .i64 c.s.l, .int .i64 c.s.r] 58)) g c := ⟨Arr.new w _ (rkL c) hg⟩
theorem CkAt.later {w w' : World} {g : Nat} {c : Ck} {B : Nat} (h : CkAt w g c) (hb : Below B w w') (hg : g < B) : CkAt w' g c := ⟨Arr.later h.arr hb hg⟩
theorem RkAt.later {w w' : World} {g : Nat} {c : Ck} {B : Nat} (h : RkAt w g c) (hb : Below B w w') (hg : g < B) : RkAt w' g c := ⟨Arr.later h.arr hb hg⟩
theorem CkAt.drew {w : World} {g : Nat} {c : Ck} (h : CkAt w g c) : CkAt w.drew g c := ⟨h.arr⟩
theorem CkAt.alloc {w : World} {g : Nat} {c : Ck} (h : CkAt w g c) (o : Obj) : CkAt (w.alloc o) g c := ⟨Arr.alloc h.arr o⟩
theorem RkAt.alloc {w : World} {g : Nat} {c : Ck} (h : RkAt w g c) (o : Obj) : RkAt (w.alloc o) g c := ⟨Arr.alloc h.arr o⟩
theorem CkAt.cells {w : World} {g : Nat} {c : Ck} (h : CkAt w g c) :
    w.cell? ⟨g, 0, none⟩ = some (.int .i64 c.s.p) ∧ w.cell? ⟨g, 1, none⟩ = some (.int .i64 c.s.l) ∧ w.cell? ⟨g, 2, none⟩ = some (.int .i64 c.s.r) ∧ w.cell? ⟨g, 3, none⟩ = some (.int .i64 c.m) ∧ w.cell? ⟨g, 4, none⟩ = some (.int .i64 c.d) :=
  ⟨Arr.cell h.arr 0, Arr.cell h.arr 1, Arr.cell h.arr 2, Arr.cell h.arr 3, Arr.cell h.arr 4⟩
theorem RkAt.cells {w : World} {g : Nat} {c : Ck} (h : RkAt w g c) :
    w.cell? ⟨g, 0, none⟩ = some (.int .i64 c.m) ∧ w.cell? ⟨g, 1, none⟩ = some (.int .i64 c.d) ∧ w.cell? ⟨g, 2, none⟩ = some (.int .i64 c.s.p) ∧ w.cell? ⟨g, 3, none⟩ = some (.int .i64 c.s.l) ∧ w.cell? ⟨g, 4, none⟩ = some (.int .i64 c.s.r) :=
  ⟨Arr.cell h.arr 0, Arr.cell h.arr 1, Arr.cell h.arr 2, Arr.cell h.arr 3, Arr.cell h.arr 4⟩
theorem CkAt.range {w : World} {g : Nat} {c : Ck} (h : CkAt w g c) : w.rangeAt g 0 (stL c.s) := by
  intro j v hv
  have hj : j < 3 := by have := (List.getElem?_eq_some_iff.1 hv).1; simpa [stL] using this
  rw [Nat.zero_add, Arr.cell h.arr j, ← hv]
  rcases (by omega : j = 0 ∨ j = 1 ∨ j = 2) with rfl | rfl | rfl <;> rfl
theorem RkAt.range {w : World} {g : Nat} {c : Ck} (h : RkAt w g c) : w.rangeAt g 2 (stL c.s) := by
  intro j v hv
  have hj : j < 3 := by have := (List.getElem?_eq_some_iff.1 hv).1; simpa [stL] using this
  rw [Arr.cell h.arr (2 + j), ← hv]
  rcases (by omega : j = 0 ∨ j = 1 ∨ j = 2) with rfl | rfl | rfl <;> rfl
/-- Cells into a part of a block that is known whole. -/
theorem wpList_store_seg {ops : Array Oper} {rest : List Oper} {op : Oper} {a : Act} {w : World} {Q : Exit → Act → World → Prop} (hgd : op.guard = none) (ty : TypeId) (x y : Operand) (ho : op.op = .store ty x y)
    (g o t : Nat) (l cs : List Value) (hx : a.eval x = .pointer (some ⟨g, o, none⟩)) (hy : a.eval y = .agg cs.toArray) (h : Arr w g t l)
    (hi : (Try.prog.info? ty).map (·.size) = some cs.length) (hfit : o + cs.length ≤ l.length) (h1 : ∀ v ∈ cs, v.oneCell' = true)
    (hn : wpList Try.prog ops Q rest (a.put op.dst undef) (w.setRow g (l.take o ++ cs ++ l.drop (o + cs.length)).toArray)) : wpList Try.prog ops Q (op :: rest) a w := by
  have hst := run_storeCells_at Try.prog g o t cs 0 l.toArray w h (by simpa using hfit) h1
  have hsv : (storeVar ty ⟨g, o, none⟩ (.agg cs.toArray)).run Try.prog w = .ok () (w.setRow g (l.take o ++ cs ++ l.drop (o + cs.length)).toArray) := by
    cases hq : Try.prog.info? ty with
    | none => simp [hq] at hi
    | some i =>
      have hs : cs.length = i.size := by simp [hq] at hi; omega
      simp only [Nat.add_zero] at hst
      simp [storeVar, sizeOf, typeInfo, hq, Value.cells, hs, hst]
  refine wpList_plain hgd fun K hK => ?_
  unfold Oper.wp execOp
  simp only [ho, hx, hy, Instr.storeAt, Instr.sureAddr, Sem.run_bind, Sem.run_pure, Result.andThen_ok, hsv]
  exact hK _ _ hn
/-- One cell of a block that is known whole. -/
theorem run_store_c1 {w : World} (ty : TypeId) (g o t : Nat) (l : List Value) (v : Value) (hv : v.cells = #[v]) (h : Arr w g t l)
    (hi : (Try.prog.info? ty).map (·.size) = some 1) (hfit : o < l.length) (h1 : v.oneCell' = true) : (storeVar ty ⟨g, o, none⟩ v).run Try.prog w = .ok () (w.setRow g (l.set o v).toArray) := by
  have hst := run_storeCells_at Try.prog g o t [v] 0 l.toArray w h (by simp; omega) (by simpa using h1)
  have hl : l.take o ++ [v] ++ l.drop (o + 1) = l.set o v := by
    rw [List.set_eq_take_append_cons_drop, if_pos hfit, List.append_assoc]; rfl
  cases hq : Try.prog.info? ty with
  | none => simp [hq] at hi
  | some i =>
    have hs : i.size = 1 := by simp [hq] at hi; omega
    simp only [Nat.add_zero] at hst
    rw [show o + [v].length = o + 1 from rfl, hl] at hst
    simp [storeVar, sizeOf, typeInfo, hq, hv, hs, hst]
theorem wp_store_c1 {op : Oper} {a : Act} {w : World} {K : Act → World → Prop} {Q : Exit → Act → World → Prop} (ty : TypeId) (x y : Operand) (ho : op.op = .store ty x y)
    (g o t : Nat) (l : List Value) (v : Value) (hx : a.eval x = .pointer (some ⟨g, o, none⟩)) (hy : a.eval y = v) (hv : v.cells = #[v]) (h : Arr w g t l)
    (hi : (Try.prog.info? ty).map (·.size) = some 1) (hfit : o < l.length) (h1 : v.oneCell' = true)
    (hn : K (a.put op.dst undef) (w.setRow g (l.set o v).toArray)) : Oper.wp Try.prog op a w K Q := by
  unfold Oper.wp execOp
  simp only [ho, hx, hy, Instr.storeAt, Instr.sureAddr, Sem.run_bind, Sem.run_pure, Result.andThen_ok, run_store_c1 ty g o t l v hv h hi hfit h1]
  exact hn
theorem wpList_store_c1 {ops : Array Oper} {rest : List Oper} {op : Oper} {a : Act} {w : World} {Q : Exit → Act → World → Prop} (hgd : op.guard = none) (ty : TypeId) (x y : Operand) (ho : op.op = .store ty x y)
    (g o t : Nat) (l : List Value) (v : Value) (hx : a.eval x = .pointer (some ⟨g, o, none⟩)) (hy : a.eval y = v) (hv : v.cells = #[v]) (h : Arr w g t l)
    (hi : (Try.prog.info? ty).map (·.size) = some 1) (hfit : o < l.length) (h1 : v.oneCell' = true)
    (hn : wpList Try.prog ops Q rest (a.put op.dst undef) (w.setRow g (l.set o v).toArray)) : wpList Try.prog ops Q (op :: rest) a w :=
  wpList_plain hgd fun K hK => wp_store_c1 ty x y ho g o t l v hx hy hv h hi hfit h1 (hK _ _ hn)
/-- Last is set. -/
theorem wpList_store_last {ops : Array Oper} {rest : List Oper} {op : Oper} {a : Act} {w : World} {Q : Exit → Act → World → Prop} (hgd : op.guard = none) (x y : Operand) (ho : op.op = .store 32 x y)
    (g : Nat) (c : Ck) (s : St) (hx : a.eval x = .pointer (some ⟨g, 0, none⟩)) (hy : a.eval y = stV s) (h : CkAt w g c)
    (hn : wpList Try.prog ops Q rest (a.put op.dst undef) (w.setRow g (ckL { c with s := s }).toArray)) : wpList Try.prog ops Q (op :: rest) a w :=
  wpList_store_seg hgd 32 x y ho g 0 56 (ckL c) (stL s) hx hy h.arr sizeSt (Nat.le_of_ble_eq_true rfl) (stL_one s) hn
theorem wpList_store_last2 {ops : Array Oper} {rest : List Oper} {op : Oper} {a : Act} {w : World} {Q : Exit → Act → World → Prop} (hgd : op.guard = none) (x y : Operand) (ho : op.op = .store 32 x y)
    (g : Nat) (c : Ck) (s : St) (hx : a.eval x = .pointer (some ⟨g, 2, none⟩)) (hy : a.eval y = stV s) (h : RkAt w g c)
    (hn : wpList Try.prog ops Q rest (a.put op.dst undef) (w.setRow g (rkL { c with s := s }).toArray)) : wpList Try.prog ops Q (op :: rest) a w :=
  wpList_store_seg hgd 32 x y ho g 2 58 (rkL c) (stL s) hx hy h.arr sizeSt (Nat.le_of_ble_eq_true rfl) (stL_one s) hn
theorem CkAt.row {w : World} {g : Nat} {c c' : Ck} (h : CkAt w g c) : CkAt (w.setRow g (ckL c').toArray) g c' := ⟨Arr.row h.arr⟩
theorem RkAt.row {w : World} {g : Nat} {c c' : Ck} (h : RkAt w g c) : RkAt (w.setRow g (rkL c').toArray) g c' := ⟨Arr.row h.arr⟩
theorem CkAt.row_other {w : World} {g g' : Nat} {c : Ck} (h : CkAt w g c) (cs : Array Value) (hg : g ≠ g') : CkAt (w.setRow g' cs) g c := ⟨Arr.row_other h.arr cs hg⟩
theorem RkAt.row_other {w : World} {g g' : Nat} {c : Ck} (h : RkAt w g c) (cs : Array Value) (hg : g ≠ g') : RkAt (w.setRow g' cs) g c := ⟨Arr.row_other h.arr cs hg⟩
/-- Only block g has changed. -/
theorem gr_setRow {w w' : World} {g : Nat} (h : w.grownBy w' (some g)) (c : Array Value) : w.grownBy (w'.setRow g c) (some g) :=
  ⟨h.os, h.tape, h.output, by rw [setRow_size]; exact h.size, fun k hk hne => by rw [setRow_other w' g k c (by intro e; exact hne (by rw [e]))]; exact h.block k hk hne⟩
theorem gr_new {w w' : World} {g k : Nat} (h : w.grownBy w' (some g)) (hk : w.heap.size ≤ k) (c : Array Value) : w.grownBy (w'.setRow k c) (some g) :=
  ⟨h.os, h.tape, h.output, by rw [setRow_size]; exact h.size, fun j hj hne => by rw [setRow_other w' k j c (by omega)]; exact h.block j hj hne⟩
theorem gr_below {w w' w'' : World} {row : Option Nat} (h : w.grownBy w' row) (hb : Below w'.heap.size w' w'') : w.grownBy w'' row :=
  ⟨hb.os.trans h.os, hb.tape.trans h.tape, hb.output.trans h.output, Nat.le_trans h.size hb.size, fun k hk hne => by rw [hb.block k (Nat.lt_of_lt_of_le hk h.size)]; exact h.block k hk hne⟩
theorem gr_of {w w' : World} (row : Option Nat) (hb : Below w.heap.size w w') : w.grownBy w' row := ⟨hb.os, hb.tape, hb.output, hb.size, fun k hk _ => hb.block k hk⟩
theorem gr_trans {w w' w'' : World} {g B : Nat} (h : Below B w w') (hB : B ≤ w.heap.size) (h2 : w'.grownBy w'' (some g)) (hg : g < B) : (∀ k, k < B → k ≠ g → w''.heap[k]? = w.heap[k]?) :=
  fun k hk hne => (h2.block k (by have := h.size; omega) (by intro e; injection e with e; exact hne e)).trans (h.block k hk)
/-- A step that changes block g alone, behind one that changed nothing. -/
theorem gr_after {w w' w'' : World} {g : Nat} (h : Below w.heap.size w w') (h2 : w'.grownBy w'' (some g)) : w.grownBy w'' (some g) :=
  ⟨h2.os.trans h.os, h2.tape.trans h.tape, h2.output.trans h.output, Nat.le_trans h.size h2.size, fun k hk hne => (h2.block k (Nat.lt_of_lt_of_le hk h.size) hne).trans (h.block k hk)⟩
theorem gr_both {w w' w'' : World} {g : Nat} (h : w.grownBy w' (some g)) (h2 : w'.grownBy w'' (some g)) : w.grownBy w'' (some g) :=
  ⟨h2.os.trans h.os, h2.tape.trans h.tape, h2.output.trans h.output, Nat.le_trans h.size h2.size, fun k hk hne => (h2.block k (Nat.lt_of_lt_of_le hk h.size) hne).trans (h.block k hk hne)⟩
/-- What lies in another block is there behind it. -/
theorem Arr.grown {w w' : World} {g k t : Nat} {l : List Value} (h : Arr w k t l) (hg : w.grownBy w' (some g)) (hne : k ≠ g) : Arr w' k t l := by
  unfold Arr at *
  rw [hg.block k (Array.getElem?_eq_some_iff.1 h).1 (by intro e; injection e with e; exact hne e)]
  exact h
theorem CkAt.grown {w w' : World} {g k : Nat} {c : Ck} (h : CkAt w k c) (hg : w.grownBy w' (some g)) (hne : k ≠ g) : CkAt w' k c := ⟨Arr.grown h.arr hg hne⟩
theorem RkAt.grown {w w' : World} {g k : Nat} {c : Ck} (h : RkAt w k c) (hg : w.grownBy w' (some g)) (hne : k ≠ g) : RkAt w' k c := ⟨Arr.grown h.arr hg hne⟩
theorem StAt.grown {w w' : World} {g k : Nat} {s : St} (h : StAt w k s) (hg : w.grownBy w' (some g)) (hne : k ≠ g) : StAt w' k s := ⟨Arr.grown h.arr hg hne⟩
theorem below_gr {B : Nat} {a w w' : World} {g : Nat} (h : Below B a w) (hg : w.grownBy w' (some g)) (hB : B ≤ w.heap.size) (hr : B ≤ g) : Below B a w' :=
  h.grown hg hB (fun k e => by injection e with e; omega)

theorem and_i64 (k : Nat) (hk : k ≤ 32) (m n : Int) (hm : m = 2 ^ k - 1) : bits .and .i64 n m = n % 2 ^ k := by
  subst hm
  have hp : (2 : Nat) ^ k ≤ 2 ^ 32 := Nat.pow_le_pow_right (by omega) hk
  have hp0 : 0 < (2 : Nat) ^ k := Nat.pow_pos (by omega)
  have ep : ((2 : Int) ^ k) = (((2 : Nat) ^ k : Nat) : Int) := by simp
  have hmm : (BitVec.ofInt 64 ((2 : Int) ^ k - 1)).toNat = 2 ^ k - 1 := by
    rw [BitVec.toNat_ofInt, ep]
    omega
  have key : (BitVec.ofInt 64 n &&& BitVec.ofInt 64 ((2 : Int) ^ k - 1)).toNat = (n % ((2 ^ 64 : Nat) : Int)).toNat % 2 ^ k := by
    rw [BitVec.toNat_and, BitVec.toNat_ofInt, hmm, Nat.and_two_pow_sub_one_eq_mod]
  show IntKind.i64.wrap ((BitVec.ofInt 64 n &&& BitVec.ofInt 64 ((2 : Int) ^ k - 1)).toNat : Nat) = n % 2 ^ k
  have hd : ((2 : Nat) ^ k) ∣ 2 ^ 64 := Nat.pow_dvd_pow 2 (by omega)
  have hlt : (n % ((2 ^ 64 : Nat) : Int)).toNat % 2 ^ k < 2 ^ k := Nat.mod_lt _ hp0
  rw [key, IntKind.wrap_i64]
  have e1 : (((n % ((2 ^ 64 : Nat) : Int)).toNat % 2 ^ k : Nat) : Int) = n % 2 ^ k := by
    rw [Int.natCast_emod, Int.toNat_of_nonneg (by omega), ep]
    exact Int.emod_emod_of_dvd n (Int.natCast_dvd_natCast.2 hd)
  rw [← e1]
  omega
theorem and3 (n : Int) : bits .and .i64 n 3 = n % 4 := and_i64 2 (by decide) 3 n (by decide)
theorem and15i (n : Int) : bits .and .i64 n 15 = n % 16 := and_i64 4 (by decide) 15 n (by decide)
theorem and31i (n : Int) : bits .and .i64 n 31 = n % 32 := and_i64 5 (by decide) 31 n (by decide)
theorem and63i (n : Int) : bits .and .i64 n 63 = n % 64 := and_i64 6 (by decide) 63 n (by decide)
theorem and16 (n : Int) : bits .and .i64 n 65535 = n % 65536 := and_i64 16 (by decide) 65535 n (by decide)
theorem and24 (n : Int) : bits .and .i64 n 16777215 = n % 16777216 := and_i64 24 (by decide) 16777215 n (by decide)
end Go.Proofs.Ytecijlgkadlmnaa

/-
  Arrays in memory: a block that is known whole, its cells, a cell changed, what a call leaves of it.
-/
import Derived.Test.YtnkjfenibgiaaaaDrewN
import Derived.Test.YtnkjfenibgiaaaaKit
import Derived.Deep.QuietTactic
import Derived.Deep.MidRow
import Derived.Deep.WholeRow
import Derived.Laws.CopyOwn
namespace Go.Proofs.Ytnkjfenibgiaaaa
open Go.RowKit NumMath
set_option maxRecDepth 100000
set_option linter.unusedVariables false
set_option linter.unusedSimpArgs false

/-- Numbers as values. -/
def u32s (l : List Nat) : List Value := l.map fun (x : Nat) => Value.int .u32 (x : Int)
def u8v (l : List Nat) : List Value := l.map fun (x : Nat) => Value.int .u8 (x : Int)
/-- Block g is an array of these values. -/
def Arr (w : World) (g t : Nat) (l : List Value) : Prop := w.heap[g]? = some (.cells l.toArray t (0, 0))
theorem u32s_len (l : List Nat) : (u32s l).length = l.length := by simp [u32s]
theorem u8v_len (l : List Nat) : (u8v l).length = l.length := by simp [u8v]
theorem u32s_set (l : List Nat) (i x : Nat) : (u32s l).set i (.int .u32 (x : Int)) = u32s (l.set i x) := by simp [u32s, List.map_set]
theorem u8v_set (l : List Nat) (i x : Nat) : (u8v l).set i (.int .u8 (x : Int)) = u8v (l.set i x) := by simp [u8v, List.map_set]
theorem u32s_one (l : List Nat) : ∀ v ∈ u32s l, v.oneCell' = true := by intro v hv; obtain ⟨x, _, rfl⟩ := List.mem_map.1 hv; rfl
theorem u8v_one (l : List Nat) : ∀ v ∈ u8v l, v.oneCell' = true := by intro v hv; obtain ⟨x, _, rfl⟩ := List.mem_map.1 hv; rfl
theorem Arr.lt {w : World} {g t : Nat} {l : List Value} (h : Arr w g t l) : g < w.heap.size := (Array.getElem?_eq_some_iff.1 h).1
theorem Arr.cell {w : World} {g t : Nat} {l : List Value} (h : Arr w g t l) (j : Nat) : w.cell? ⟨g, j, none⟩ = l[j]? := by
  rw [cell_of_row w g j _ t _ h]; simp
theorem Arr.cell32 {w : World} {g t : Nat} {l : List Nat} (h : Arr w g t (u32s l)) (j : Nat) (hj : j < l.length) : w.cell? ⟨g, j, none⟩ = some (.int .u32 ((l[j]?.getD 0 : Nat) : Int)) := by
  rw [h.cell j]; simp [u32s, hj]
theorem Arr.cell8 {w : World} {g t : Nat} {l : List Nat} (h : Arr w g t (u8v l)) (j : Nat) (hj : j < l.length) : w.cell? ⟨g, j, none⟩ = some (.int .u8 ((l[j]?.getD 0 : Nat) : Int)) := by
  rw [h.cell j]; simp [u8v, hj]
theorem Arr.frozen {w : World} {g t : Nat} {l : List Value} (h : Arr w g t l) (j : Nat) : w.frozen? ⟨g, j, none⟩ = false := frozen_of_row w g j _ t h
theorem Arr.set {w : World} {g t : Nat} {l : List Value} (h : Arr w g t l) (j : Nat) (v : Value) : Arr (w.setCell ⟨g, j, none⟩ v) g t (l.set j v) := by
  have := heap_setCell_same w g j _ t v h
  unfold Arr
  rw [this]; simp
theorem Arr.set_other {w : World} {g t : Nat} {l : List Value} (h : Arr w g t l) (p : Addr) (hp : g ≠ p.block) (v : Value) : Arr (w.setCell p v) g t l := by
  unfold Arr; rw [heap_setCell_other w p g v hp]; exact h
theorem Arr.alloc {w : World} {g t : Nat} {l : List Value} (h : Arr w g t l) (o : Obj) : Arr (w.alloc o) g t l := by
  unfold Arr; rw [Below.heap_alloc w o g h.lt]; exact h
theorem Arr.new (w : World) (t : Nat) (l : List Value) {g : Nat} (hg : g = w.heap.size) : Arr (w.alloc (.cells l.toArray t)) g t l := by
  subst hg; exact heap_alloc_last w _
theorem Arr.drewN {w : World} {g t : Nat} {l : List Value} (h : Arr w g t l) (n : Nat) : Arr (w.drewN n) g t l := h
theorem Arr.drew {w : World} {g t : Nat} {l : List Value} (h : Arr w g t l) : Arr w.drew g t l := h
theorem Arr.later {w w' : World} {g t : Nat} {l : List Value} {B : Nat} (h : Arr w g t l) (hb : Below B w w') (hg : g < B) : Arr w' g t l := by
  unfold Arr; rw [hb.block g hg]; exact h
/-- The whole array by value. -/
theorem Arr.load {w : World} {g t ty : Nat} {l : List Value} (h : Arr w g t l) (d : TypeDesc) (hu : Try.prog.underlying ty = some d) (hd : d.isRow = true) (hi : (Try.prog.info? ty).map (·.size) = some l.length) :
    (loadVar ty ⟨g, 0, none⟩).run Try.prog w = .ok (.agg l.toArray) w :=
  run_loadVar_row w g t ty l.toArray (0, 0) d h hu (by cases d <;> simp_all) (by simpa using hi)
theorem Arr.store {w : World} {g t ty : Nat} {l l' : List Value} (h : Arr w g t l) (hi : (Try.prog.info? ty).map (·.size) = some l'.length) (ho : l.length = l'.length) (h1 : ∀ v ∈ l', v.oneCell' = true) :
    (storeVar ty ⟨g, 0, none⟩ (.agg l'.toArray)).run Try.prog w = .ok () (w.setRow g l'.toArray) :=
  run_storeVar_row w g t ty _ _ h (by simpa using hi) (by simpa using ho) (all_oneCell_toArray h1)
theorem Arr.row {w : World} {g t : Nat} {l l' : List Value} (h : Arr w g t l) : Arr (w.setRow g l'.toArray) g t l' := setRow_heap w g _ _ t _ h
theorem Arr.row_other {w : World} {g g' t : Nat} {l : List Value} (h : Arr w g t l) (cs : Array Value) (hg : g ≠ g') : Arr (w.setRow g' cs) g t l := by
  unfold Arr; rw [setRow_other w g' g cs hg]; exact h

/-- An element of an array by value. -/
theorem run_index_row {P : Program} {w : World} (t e : TypeId) (n : Nat) (cs : List Value) (i : Nat) (v : Value) (h : P.underlying t = some (.array n e)) (hs : (P.info? e).map (fun x => (x.size)) = some 1) (ha : (isAgg e).run P w = .ok false w) (hi : i < n) (hv : cs[i]? = some v) :
    (Instr.index t (.agg cs.toArray) (.int .i64 (i : Int))).run P w = .ok v w := by
  cases hq : P.info? e with
  | none => simp [hq] at hs
  | some x =>
    have hx : x.size = 1 := by simpa [hq] using hs
    simp [Instr.index, run_underlying h, asIntOf, go_sem, hi, sizeOf, typeInfo, hq, hx, ha]
    rw [hv]; rfl
theorem range_of_arr {w : World} {g t : Nat} {l : List Value} (h : Arr w g t l) : w.rangeAt g 0 l := by
  intro j v hv
  rw [Nat.zero_add, h.cell j]; exact hv
/-- A whole array into a block that is known whole. -/
theorem wpList_store_arr {ops : Array Oper} {rest : List Oper} {op : Oper} {a : Act} {w : World} {Q : Exit → Act → World → Prop} (hgd : op.guard = none) (ty : TypeId) (x y : Operand) (ho : op.op = .store ty x y)
    (g t : Nat) (l l' : List Value) (hx : a.eval x = .pointer (some ⟨g, 0, none⟩)) (hy : a.eval y = .agg l'.toArray) (h : Arr w g t l)
    (hi : (Try.prog.info? ty).map (·.size) = some l'.length) (hl : l.length = l'.length) (h1 : ∀ v ∈ l', v.oneCell' = true)
    (hn : wpList Try.prog ops Q rest (a.put op.dst undef) (w.setRow g l'.toArray)) : wpList Try.prog ops Q (op :: rest) a w := by
  refine wpList_plain hgd fun K hK => ?_
  unfold Oper.wp execOp
  simp only [ho, hx, hy, Instr.storeAt, Instr.sureAddr, Sem.run_bind, Sem.run_pure, Result.andThen_ok, Arr.store h hi hl h1]
  exact hK _ _ hn

/-- The result that lies in an array's own variable. -/
theorem ret_arr {fn : Func} {R : Ending → World → Prop} {a : Act} {w : World} {p : Tmp} {ty : TypeId} (g t : Nat) (l : List Value) (d : TypeDesc) (h : fn.results = #[.cell p ty]) (hp : a.tmps.getD p undef = .pointer (some ⟨g, 0, none⟩)) (hA : Arr w g t l)
    (hu : Try.prog.underlying ty = some d) (hd : d.isRow = true) (hi : (Try.prog.info? ty).map (·.size) = some l.length) (hdf : a.defers = []) (hR : R (.returned (.agg l.toArray)) w) : bodyPost Try.prog fn R .ret a w :=
  bodyPost_ret (results_cell_row h a.tmps w g t l.toArray (0, 0) d hp hA hu (by cases d <;> simp_all) (by simpa using hi)) hdf hR

end Go.Proofs.Ytnkjfenibgiaaaa

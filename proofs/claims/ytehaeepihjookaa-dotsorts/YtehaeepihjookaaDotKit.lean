/-
  A dot as a value and in memory.
-/
import Derived.Test.YtehaeepihjookaaArrKit
import Derived.Test.YtehaeepihjookaaDotMath
import Derived.Laws.ResultCell
namespace Go.Proofs.Ytehaeepihjookaa
open Go.RowKit NumMath
open DotMath (Dt)
set_option maxRecDepth 100000
set_option linter.unusedVariables false
set_option linter.unusedSimpArgs false

def dtL (s : Dt) : List Value := [.int .i64 s.r, .int .i64 s.s]
def dtV (s : Dt) : Value := .agg #[.int .i64 s.r, .int .i64 s.s]
theorem dtV_eq (s : Dt) : dtV s = .agg (dtL s).toArray := rfl
theorem dtL_one (s : Dt) : ∀ v ∈ dtL s, v.oneCell' = true := by
  intro v hv
  simp only [dtL, List.mem_cons, List.not_mem_nil, or_false] at hv
  rcases hv with rfl | rfl <;> rfl
theorem sizeDt : (Try.prog.info? 23).map (·.size) = some 2 := by kernel_rfl
theorem zeroDt : (Try.prog.info? 23).map (fun i => (i.zero, i.size)) = some (some (dtV DotMath.zero), 2) := by kernel_rfl
/-- A dot that lies in block g. -/
structure DtAt (w : World) (g : Nat) (s : Dt) : Prop where
  arr : Arr w g 23 (dtL s)
theorem DtAt.new (w : World) (s : Dt) {g : Nat} (hg : g = w.heap.size) : DtAt (w.alloc (.cells #[.int .i64 s.r, .int .i64 s.s] 23)) g s := ⟨Arr.new w _ (dtL s) hg⟩
theorem DtAt.later {w w' : World} {g : Nat} {s : Dt} {B : Nat} (h : DtAt w g s) (hb : Below B w w') (hg : g < B) : DtAt w' g s := ⟨Arr.later h.arr hb hg⟩
theorem DtAt.alloc {w : World} {g : Nat} {s : Dt} (h : DtAt w g s) (o : Obj) : DtAt (w.alloc o) g s := ⟨Arr.alloc h.arr o⟩
theorem DtAt.drew {w : World} {g : Nat} {s : Dt} (h : DtAt w g s) : DtAt w.drew g s := ⟨h.arr⟩
theorem DtAt.lt {w : World} {g : Nat} {s : Dt} (h : DtAt w g s) : g < w.heap.size := Arr.lt h.arr
theorem DtAt.cells {w : World} {g : Nat} {s : Dt} (h : DtAt w g s) :
    w.cell? ⟨g, 0, none⟩ = some (.int .i64 s.r) ∧ w.cell? ⟨g, 1, none⟩ = some (.int .i64 s.s) :=
  ⟨Arr.cell h.arr 0, Arr.cell h.arr 1⟩
theorem DtAt.frozen {w : World} {g : Nat} {s : Dt} (h : DtAt w g s) (j : Nat) : w.frozen? ⟨g, j, none⟩ = false := Arr.frozen h.arr j
theorem DtAt.row {w : World} {g : Nat} {s s' : Dt} (h : DtAt w g s) : DtAt (w.setRow g (dtL s').toArray) g s' := ⟨Arr.row h.arr⟩
theorem DtAt.row_other {w : World} {g g' : Nat} {s : Dt} (h : DtAt w g s) (cs : Array Value) (hg : g ≠ g') : DtAt (w.setRow g' cs) g s := ⟨Arr.row_other h.arr cs hg⟩
theorem DtAt.load {w : World} {g : Nat} {s : Dt} (h : DtAt w g s) : (loadVar 23 ⟨g, 0, none⟩).run Try.prog w = .ok (dtV s) w :=
  Arr.load h.arr _ Try.underlying23 rfl sizeDt
/-- A result that lies in its own variable. -/
theorem ret_dt1 {fn : Func} {R : Ending → World → Prop} {a : Act} {w : World} {p : Tmp} (g : Nat) (s : Dt) (h : fn.results = #[.cell p 23]) (hp : a.tmps.getD p undef = .pointer (some ⟨g, 0, none⟩)) (hA : DtAt w g s)
    (hdf : a.defers = []) (hR : R (.returned (dtV s)) w) : bodyPost Try.prog fn R .ret a w :=
  ret_arr g 23 (dtL s) _ h hp hA.arr Try.underlying23 rfl sizeDt hdf hR
/-- Two results, the first of which lies in its own variable. -/
theorem ret_dt {fn : Func} {R : Ending → World → Prop} {a : Act} {w : World} {p u : Tmp} (g : Nat) (s : Dt) (v : Value) (h : fn.results = #[.cell p 23, .tmp u]) (hp : a.tmps.getD p undef = .pointer (some ⟨g, 0, none⟩)) (hu2 : a.tmps.getD u undef = v) (hA : DtAt w g s)
    (hdf : a.defers = []) (hR : R (.returned (.tuple #[dtV s, v])) w) : bodyPost Try.prog fn R .ret a w := by
  refine bodyPost_ret (v := .tuple #[dtV s, v]) ?_ hdf hR
  rw [results_cell_tmp h, hp, hu2, dtV_eq]
  simp [asAddr, Result.andThen, Arr.load hA.arr _ Try.underlying23 rfl sizeDt]
/-- A dot, whole, into its block. -/
theorem wpList_store_dt {ops : Array Oper} {rest : List Oper} {op : Oper} {a : Act} {w : World} {Q : Exit → Act → World → Prop} (hgd : op.guard = none) (x y : Operand) (ho : op.op = .store 23 x y)
    (g : Nat) (s s' : Dt) (hx : a.eval x = .pointer (some ⟨g, 0, none⟩)) (hy : a.eval y = dtV s') (h : DtAt w g s)
    (hn : wpList Try.prog ops Q rest (a.put op.dst undef) (w.setRow g (dtL s').toArray)) : wpList Try.prog ops Q (op :: rest) a w :=
  wpList_store_arr hgd 23 x y ho g 23 (dtL s) (dtL s') hx hy h.arr sizeDt rfl (dtL_one s') hn
theorem wp_store_dt {op : Oper} {a : Act} {w : World} {K : Act → World → Prop} {Q : Exit → Act → World → Prop} (x y : Operand) (ho : op.op = .store 23 x y)
    (g : Nat) (s s' : Dt) (hx : a.eval x = .pointer (some ⟨g, 0, none⟩)) (hy : a.eval y = dtV s') (h : DtAt w g s) (hn : K (a.put op.dst undef) (w.setRow g (dtL s').toArray)) : Oper.wp Try.prog op a w K Q := by
  unfold Oper.wp execOp
  simp only [ho, hx, hy, dtV_eq, Instr.storeAt, Instr.sureAddr, Sem.run_bind, Sem.run_pure, Result.andThen_ok, Arr.store h.arr sizeDt (show (dtL s).length = (dtL s').length from rfl) (dtL_one s')]
  exact hn
end Go.Proofs.Ytehaeepihjookaa

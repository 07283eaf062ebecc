/-
  A stamp as a value and in memory.
-/
import Derived.Test.YtecijlgkadlmnaaArrKit
import Derived.Test.YtecijlgkadlmnaaStMath
import Derived.Laws.ResultCell
namespace Go.Proofs.Ytecijlgkadlmnaa
open Go.RowKit NumMath
open StMath (St)
set_option maxRecDepth 100000
set_option linter.unusedVariables false
set_option linter.unusedSimpArgs false

def stL (s : St) : List Value := [.int .i64 s.p, .int .i64 s.l, .int .i64 s.r]
def stV (s : St) : Value := .agg #[.int .i64 s.p, .int .i64 s.l, .int .i64 s.r]
theorem stV_eq (s : St) : stV s = .agg (stL s).toArray := rfl
theorem stL_one (s : St) : ∀ v ∈ stL s, v.oneCell' = true := by
  intro v hv
  simp only [stL, List.mem_cons, List.not_mem_nil, or_false] at hv
  rcases hv with rfl | rfl | rfl <;> rfl
theorem sizeSt : (Try.prog.info? 32).map (·.size) = some 3 := by kernel_rfl
theorem zeroSt : (Try.prog.info? 32).map (fun i => (i.zero, i.size)) = some (some (stV StMath.zero), 3) := by kernel_rfl
/-- A stamp that lies in block g. -/
structure StAt (w : World) (g : Nat) (s : St) : Prop where
  arr : Arr w g 32 (stL s)
theorem StAt.new (w : World) (s : St) {g : Nat} (hg : g = w.heap.size) : StAt (w.alloc (.cells #[.int .i64 s.p, .int .i64 s.l, .int .i64 s.r] 32)) g s := ⟨Arr.new w _ (stL s) hg⟩
theorem StAt.later {w w' : World} {g : Nat} {s : St} {B : Nat} (h : StAt w g s) (hb : Below B w w') (hg : g < B) : StAt w' g s := ⟨Arr.later h.arr hb hg⟩
theorem StAt.alloc {w : World} {g : Nat} {s : St} (h : StAt w g s) (o : Obj) : StAt (w.alloc o) g s := ⟨Arr.alloc h.arr o⟩
theorem StAt.drew {w : World} {g : Nat} {s : St} (h : StAt w g s) : StAt w.drew g s := ⟨h.arr⟩
theorem StAt.lt {w : World} {g : Nat} {s : St} (h : StAt w g s) : g < w.heap.size := Arr.lt h.arr
theorem StAt.cells {w : World} {g : Nat} {s : St} (h : StAt w g s) :
    w.cell? ⟨g, 0, none⟩ = some (.int .i64 s.p) ∧ w.cell? ⟨g, 1, none⟩ = some (.int .i64 s.l) ∧ w.cell? ⟨g, 2, none⟩ = some (.int .i64 s.r) :=
  ⟨Arr.cell h.arr 0, Arr.cell h.arr 1, Arr.cell h.arr 2⟩
theorem StAt.frozen {w : World} {g : Nat} {s : St} (h : StAt w g s) (j : Nat) : w.frozen? ⟨g, j, none⟩ = false := Arr.frozen h.arr j
theorem StAt.row {w : World} {g : Nat} {s s' : St} (h : StAt w g s) : StAt (w.setRow g (stL s').toArray) g s' := ⟨Arr.row h.arr⟩
theorem StAt.row_other {w : World} {g g' : Nat} {s : St} (h : StAt w g s) (cs : Array Value) (hg : g ≠ g') : StAt (w.setRow g' cs) g s := ⟨Arr.row_other h.arr cs hg⟩
theorem StAt.load {w : World} {g : Nat} {s : St} (h : StAt w g s) : (loadVar 32 ⟨g, 0, none⟩).run Try.prog w = .ok (stV s) w :=
  Arr.load h.arr _ Try.underlying32 rfl sizeSt
/-- A result that lies in its own variable. -/
theorem ret_st1 {fn : Func} {R : Ending → World → Prop} {a : Act} {w : World} {p : Tmp} (g : Nat) (s : St) (h : fn.results = #[.cell p 32]) (hp : a.tmps.getD p undef = .pointer (some ⟨g, 0, none⟩)) (hA : StAt w g s)
    (hdf : a.defers = []) (hR : R (.returned (stV s)) w) : bodyPost Try.prog fn R .ret a w :=
  ret_arr g 32 (stL s) _ h hp hA.arr Try.underlying32 rfl sizeSt hdf hR
/-- Two results, the first of which lies in its own variable. -/
theorem ret_st {fn : Func} {R : Ending → World → Prop} {a : Act} {w : World} {p u : Tmp} (g : Nat) (s : St) (v : Value) (h : fn.results = #[.cell p 32, .tmp u]) (hp : a.tmps.getD p undef = .pointer (some ⟨g, 0, none⟩)) (hu2 : a.tmps.getD u undef = v) (hA : StAt w g s)
    (hdf : a.defers = []) (hR : R (.returned (.tuple #[stV s, v])) w) : bodyPost Try.prog fn R .ret a w := by
  refine bodyPost_ret (v := .tuple #[stV s, v]) ?_ hdf hR
  rw [results_cell_tmp h, hp, hu2, stV_eq]
  simp [asAddr, Result.andThen, Arr.load hA.arr _ Try.underlying32 rfl sizeSt]
/-- A stamp, whole, into its block. -/
theorem wpList_store_st {ops : Array Oper} {rest : List Oper} {op : Oper} {a : Act} {w : World} {Q : Exit → Act → World → Prop} (hgd : op.guard = none) (x y : Operand) (ho : op.op = .store 32 x y)
    (g : Nat) (s s' : St) (hx : a.eval x = .pointer (some ⟨g, 0, none⟩)) (hy : a.eval y = stV s') (h : StAt w g s)
    (hn : wpList Try.prog ops Q rest (a.put op.dst undef) (w.setRow g (stL s').toArray)) : wpList Try.prog ops Q (op :: rest) a w :=
  wpList_store_arr hgd 32 x y ho g 32 (stL s) (stL s') hx hy h.arr sizeSt rfl (stL_one s') hn
theorem wp_store_st {op : Oper} {a : Act} {w : World} {K : Act → World → Prop} {Q : Exit → Act → World → Prop} (x y : Operand) (ho : op.op = .store 32 x y)
    (g : Nat) (s s' : St) (hx : a.eval x = .pointer (some ⟨g, 0, none⟩)) (hy : a.eval y = stV s') (h : StAt w g s) (hn : K (a.put op.dst undef) (w.setRow g (stL s').toArray)) : Oper.wp Try.prog op a w K Q := by
  unfold Oper.wp execOp
  simp only [ho, hx, hy, stV_eq, Instr.storeAt, Instr.sureAddr, Sem.run_bind, Sem.run_pure, Result.andThen_ok, Arr.store h.arr sizeSt (show (stL s).length = (stL s').length from rfl) (stL_one s')]
  exact hn
end Go.Proofs.Ytecijlgkadlmnaa

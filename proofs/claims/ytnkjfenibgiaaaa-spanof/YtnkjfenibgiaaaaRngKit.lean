/-
  A range as a value and in memory.
-/
import Derived.Test.YtnkjfenibgiaaaaArrKit
import Derived.Test.YtnkjfenibgiaaaaSpanMath
import Derived.Laws.ResultCell
namespace Go.Proofs.Ytnkjfenibgiaaaa
open Go.RowKit NumMath
open SpanMath (Rg)
set_option maxRecDepth 100000
set_option linter.unusedVariables false
set_option linter.unusedSimpArgs false

def rgL (s : Rg) : List Value := [.int .i64 s.f, .int .i64 s.t]
def rgV (s : Rg) : Value := .agg #[.int .i64 s.f, .int .i64 s.t]
theorem rgV_eq (s : Rg) : rgV s = .agg (rgL s).toArray := rfl
theorem rgL_one (s : Rg) : ∀ v ∈ rgL s, v.oneCell' = true := by
  intro v hv
  simp only [rgL, List.mem_cons, List.not_mem_nil, or_false] at hv
  rcases hv with rfl | rfl <;> rfl
theorem sizeRg : (Try.prog.info? 24).map (·.size) = some 2 := by kernel_rfl
theorem zeroRg : (Try.prog.info? 24).map (fun i => (i.zero, i.size)) = some (some (rgV SpanMath.zero), 2) := by kernel_rfl
/-- A range that lies in block g. -/
structure RgAt (w : World) (g : Nat) (s : Rg) : Prop where
  arr : Arr w g 24 (rgL s)
theorem RgAt.new (w : World) (s : Rg) {g : Nat} (hg : g = w.heap.size) : RgAt (w.alloc (.cells #[.int .i64 s.f, .int .i64 s.t] 24)) g s := ⟨Arr.new w _ (rgL s) hg⟩
theorem RgAt.later {w w' : World} {g : Nat} {s : Rg} {B : Nat} (h : RgAt w g s) (hb : Below B w w') (hg : g < B) : RgAt w' g s := ⟨Arr.later h.arr hb hg⟩
theorem RgAt.alloc {w : World} {g : Nat} {s : Rg} (h : RgAt w g s) (o : Obj) : RgAt (w.alloc o) g s := ⟨Arr.alloc h.arr o⟩
theorem RgAt.drew {w : World} {g : Nat} {s : Rg} (h : RgAt w g s) : RgAt w.drew g s := ⟨h.arr⟩
theorem RgAt.lt {w : World} {g : Nat} {s : Rg} (h : RgAt w g s) : g < w.heap.size := Arr.lt h.arr
theorem RgAt.cells {w : World} {g : Nat} {s : Rg} (h : RgAt w g s) :
    w.cell? ⟨g, 0, none⟩ = some (.int .i64 s.f) ∧ w.cell? ⟨g, 1, none⟩ = some (.int .i64 s.t) :=
  ⟨Arr.cell h.arr 0, Arr.cell h.arr 1⟩
theorem RgAt.frozen {w : World} {g : Nat} {s : Rg} (h : RgAt w g s) (j : Nat) : w.frozen? ⟨g, j, none⟩ = false := Arr.frozen h.arr j
theorem RgAt.row {w : World} {g : Nat} {s s' : Rg} (h : RgAt w g s) : RgAt (w.setRow g (rgL s').toArray) g s' := ⟨Arr.row h.arr⟩
theorem RgAt.row_other {w : World} {g g' : Nat} {s : Rg} (h : RgAt w g s) (cs : Array Value) (hg : g ≠ g') : RgAt (w.setRow g' cs) g s := ⟨Arr.row_other h.arr cs hg⟩
theorem RgAt.load {w : World} {g : Nat} {s : Rg} (h : RgAt w g s) : (loadVar 24 ⟨g, 0, none⟩).run Try.prog w = .ok (rgV s) w :=
  Arr.load h.arr _ Try.underlying24 rfl sizeRg
/-- A result that lies in its own variable. -/
theorem ret_rg1 {fn : Func} {R : Ending → World → Prop} {a : Act} {w : World} {p : Tmp} (g : Nat) (s : Rg) (h : fn.results = #[.cell p 24]) (hp : a.tmps.getD p undef = .pointer (some ⟨g, 0, none⟩)) (hA : RgAt w g s)
    (hdf : a.defers = []) (hR : R (.returned (rgV s)) w) : bodyPost Try.prog fn R .ret a w :=
  ret_arr g 24 (rgL s) _ h hp hA.arr Try.underlying24 rfl sizeRg hdf hR
/-- Two results, the first of which lies in its own variable. -/
theorem ret_rg {fn : Func} {R : Ending → World → Prop} {a : Act} {w : World} {p u : Tmp} (g : Nat) (s : Rg) (v : Value) (h : fn.results = #[.cell p 24, .tmp u]) (hp : a.tmps.getD p undef = .pointer (some ⟨g, 0, none⟩)) (hu2 : a.tmps.getD u undef = v) (hA : RgAt w g s)
    (hdf : a.defers = []) (hR : R (.returned (.tuple #[rgV s, v])) w) : bodyPost Try.prog fn R .ret a w := by
  refine bodyPost_ret (v := .tuple #[rgV s, v]) ?_ hdf hR
  rw [results_cell_tmp h, hp, hu2, rgV_eq]
  simp [asAddr, Result.andThen, Arr.load hA.arr _ Try.underlying24 rfl sizeRg]
/-- A range, whole, into its block. -/
theorem wpList_store_rg {ops : Array Oper} {rest : List Oper} {op : Oper} {a : Act} {w : World} {Q : Exit → Act → World → Prop} (hgd : op.guard = none) (x y : Operand) (ho : op.op = .store 24 x y)
    (g : Nat) (s s' : Rg) (hx : a.eval x = .pointer (some ⟨g, 0, none⟩)) (hy : a.eval y = rgV s') (h : RgAt w g s)
    (hn : wpList Try.prog ops Q rest (a.put op.dst undef) (w.setRow g (rgL s').toArray)) : wpList Try.prog ops Q (op :: rest) a w :=
  wpList_store_arr hgd 24 x y ho g 24 (rgL s) (rgL s') hx hy h.arr sizeRg rfl (rgL_one s') hn
theorem wp_store_rg {op : Oper} {a : Act} {w : World} {K : Act → World → Prop} {Q : Exit → Act → World → Prop} (x y : Operand) (ho : op.op = .store 24 x y)
    (g : Nat) (s s' : Rg) (hx : a.eval x = .pointer (some ⟨g, 0, none⟩)) (hy : a.eval y = rgV s') (h : RgAt w g s) (hn : K (a.put op.dst undef) (w.setRow g (rgL s').toArray)) : Oper.wp Try.prog op a w K Q := by
  unfold Oper.wp execOp
  simp only [ho, hx, hy, rgV_eq, Instr.storeAt, Instr.sureAddr, Sem.run_bind, Sem.run_pure, Result.andThen_ok, Arr.store h.arr sizeRg (show (rgL s).length = (rgL s').length from rfl) (rgL_one s')]
  exact hn
end Go.Proofs.Ytnkjfenibgiaaaa

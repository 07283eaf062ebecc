/-
  EntKit, EvKit.
-/
import Derived.Test.YteockpllnhjooaaGreatDoorQC05
import Derived.Test.YteockpllnhjooaaGreatDoorQC06
import Derived.Test.YteockpllnhjooaaGreatDoorQC01
import Derived.Laws.ResultCell
namespace Go.Proofs.YteockpllnhjooaaGreatDoor
open Go.RowKit NumMath
open EntMath (E)
set_option maxRecDepth 100000
set_option linter.unusedVariables false
set_option linter.unusedSimpArgs false

def entL (e : E) : List Value := [.string (strN e.feed), .string (strN e.guid), .string (strN e.title), .string (strN e.link), .string (strN e.body), .int .i64 e.time]
def entV (e : E) : Value := .agg #[.string (strN e.feed), .string (strN e.guid), .string (strN e.title), .string (strN e.link), .string (strN e.body), .int .i64 e.time]
theorem entV_eq (e : E) : entV e = .agg (entL e).toArray := rfl
theorem entL_len (e : E) : (entL e).length = 6 := rfl
theorem entL_one (e : E) : ∀ v ∈ entL e, v.oneCell' = true := by
  intro v hv
  simp only [entL, List.mem_cons, List.not_mem_nil, or_false] at hv
  rcases hv with rfl | rfl | rfl | rfl | rfl | rfl <;> rfl
theorem sizeE : (Tryz.prog.info? 23).map (·.size) = some 6 := by kernel_rfl
theorem zeroE : (Tryz.prog.info? 23).map (fun i => (i.zero, i.size)) = some (some (entV EntMath.zero), 6) := by kernel_rfl
/-- An entry that lies in block g. -/
structure EntAt (w : World) (g : Nat) (e : E) : Prop where
  arr : Arr w g 23 (entL e)
theorem EntAt.new (w : World) (e : E) : EntAt (w.alloc (.cells #[.string (strN e.feed), .string (strN e.guid), .string (strN e.title), .string (strN e.link), .string (strN e.body), .int .i64 e.time] 23)) w.heap.size e := ⟨Arr.new w _ (entL e) rfl⟩
theorem EntAt.later {w w' : World} {g : Nat} {e : E} {B : Nat} (h : EntAt w g e) (hb : Below B w w') (hg : g < B) : EntAt w' g e := ⟨Arr.later h.arr hb hg⟩
theorem EntAt.alloc {w : World} {g : Nat} {e : E} (h : EntAt w g e) (o : Obj) : EntAt (w.alloc o) g e := ⟨Arr.alloc h.arr o⟩
theorem EntAt.lt {w : World} {g : Nat} {e : E} (h : EntAt w g e) : g < w.heap.size := Arr.lt h.arr
theorem EntAt.cells {w : World} {g : Nat} {e : E} (h : EntAt w g e) :
    w.cell? ⟨g, 0, none⟩ = some (.string (strN e.feed)) ∧ w.cell? ⟨g, 1, none⟩ = some (.string (strN e.guid)) ∧ w.cell? ⟨g, 2, none⟩ = some (.string (strN e.title)) ∧
    w.cell? ⟨g, 3, none⟩ = some (.string (strN e.link)) ∧ w.cell? ⟨g, 4, none⟩ = some (.string (strN e.body)) ∧ w.cell? ⟨g, 5, none⟩ = some (.int .i64 e.time) :=
  ⟨Arr.cell h.arr 0, Arr.cell h.arr 1, Arr.cell h.arr 2, Arr.cell h.arr 3, Arr.cell h.arr 4, Arr.cell h.arr 5⟩
theorem EntAt.frozen {w : World} {g : Nat} {e : E} (h : EntAt w g e) (j : Nat) : w.frozen? ⟨g, j, none⟩ = false := Arr.frozen h.arr j

/-- Two results, the first of which lies in its own variable. -/
theorem ret_ent {fn : Func} {R : Ending → World → Prop} {a : Act} {w : World} {p u : Tmp} (g : Nat) (e : E) (v : Value) (h : fn.results = #[.cell p 23, .tmp u]) (hp : a.tmps.getD p undef = .pointer (some ⟨g, 0, none⟩)) (hu2 : a.tmps.getD u undef = v) (hA : EntAt w g e)
    (hdf : a.defers = []) (hR : R (.returned (.tuple #[entV e, v])) w) : bodyPost Tryz.prog fn R .ret a w := by
  refine bodyPost_ret (v := .tuple #[entV e, v]) ?_ hdf hR
  rw [results_cell_tmp h, hp, hu2, entV_eq]
  simp [asAddr, Result.andThen, Arr.load hA.arr _ Tryz.underlying23 rfl sizeE]
/-- An entry, whole, into its block. -/
theorem wpList_store_ent {ops : Array Oper} {rest : List Oper} {op : Oper} {a : Act} {w : World} {Q : Exit → Act → World → Prop} (hgd : op.guard = none) (x y : Operand) (ho : op.op = .store 23 x y)
    (g : Nat) (e e' : E) (hx : a.eval x = .pointer (some ⟨g, 0, none⟩)) (hy : a.eval y = entV e') (h : EntAt w g e)
    (hn : wpList Tryz.prog ops Q rest (a.put op.dst undef) (w.setRow g (entL e').toArray)) : wpList Tryz.prog ops Q (op :: rest) a w :=
  wpList_store_arr hgd 23 x y ho g 23 (entL e) (entL e') hx hy h.arr sizeE rfl (entL_one e') hn
theorem EntAt.row {w : World} {g : Nat} {e e' : E} (h : EntAt w g e) : EntAt (w.setRow g (entL e').toArray) g e' := ⟨Arr.row h.arr⟩
theorem EntAt.row_other {w : World} {g g' : Nat} {e : E} (h : EntAt w g e) (cs : Array Value) (hg : g ≠ g') : EntAt (w.setRow g' cs) g e := ⟨Arr.row_other h.arr cs hg⟩

/-- The equality of two entries, as the walk shows it. -/
theorem ent_eq_iff {a b : E} : a = b ↔ a.feed = b.feed ∧ a.guid = b.guid ∧ a.title = b.title ∧ a.link = b.link ∧ a.body = b.body ∧ a.time = b.time := by
  cases a; cases b; simp
end Go.Proofs.YteockpllnhjooaaGreatDoor
namespace Go.Proofs.YteockpllnhjooaaGreatDoor
open Go.RowKit NumMath
open EntMath (E)
set_option maxRecDepth 100000
set_option linter.unusedVariables false
set_option linter.unusedSimpArgs false

/-- An event's parts (what it has seen as a value). -/
structure Ev where
  replica : Int
  seq : Int
  phys : Int
  logic : Int
  srep : Int
  kind : Int
  addr : List Nat
  title : List Nat
  seen : Value
  entry : E
  id : List Nat
  on : Bool
def evL (v : Ev) : List Value := [.int .i64 v.replica, .int .i64 v.seq, .int .i64 v.phys, .int .i64 v.logic, .int .i64 v.srep, .int .i64 v.kind, .string (strN v.addr), .string (strN v.title), v.seen,
  .string (strN v.entry.feed), .string (strN v.entry.guid), .string (strN v.entry.title), .string (strN v.entry.link), .string (strN v.entry.body), .int .i64 v.entry.time] ++ (u8v v.id ++ [.bool v.on])
theorem evL_len {v : Ev} (h : v.id.length = 32) : (evL v).length = 48 := by simp [evL, u8v_len, h]
theorem evL_one {v : Ev} (h : v.seen.oneCell' = true) : ∀ x ∈ evL v, x.oneCell' = true := by
  intro x hx
  rcases List.mem_append.1 hx with hx | hx
  · simp only [List.mem_cons, List.not_mem_nil, or_false] at hx
    rcases hx with rfl | rfl | rfl | rfl | rfl | rfl | rfl | rfl | rfl | rfl | rfl | rfl | rfl | rfl | rfl <;> first | rfl | exact h
  · rcases List.mem_append.1 hx with hx | hx
    · exact u8v_one _ x hx
    · simp only [List.mem_cons, List.not_mem_nil, or_false] at hx
      subst hx; rfl
theorem sizeEv : (Tryz.prog.info? 35).map (·.size) = some 48 := by kernel_rfl
def evZ (e : E) : Ev := ⟨0, 0, 0, 0, 0, 0, [], [], .slice none 0 0, e, List.replicate 32 0, false⟩
theorem zeroEv : (Tryz.prog.info? 35).map (fun i => (i.zero, i.size)) = some (some (.agg (evL (evZ EntMath.zero)).toArray), 48) := by kernel_rfl
theorem builtEv (e : E) : Tryz.prog.built 35 [(6, entV e)] = some (evL (evZ e)).toArray := by kernel_rfl
end Go.Proofs.YteockpllnhjooaaGreatDoor

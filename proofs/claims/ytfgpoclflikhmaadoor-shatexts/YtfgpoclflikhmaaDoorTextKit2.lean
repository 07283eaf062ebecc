/-
  Parts of strings and strings one behind another.
-/
import Derived.Test.YtfgpoclflikhmaaDoorTextKit
namespace Go.Proofs.YtfgpoclflikhmaaDoor
open Go.RowKit NumMath
set_option maxRecDepth 100000
set_option linter.unusedVariables false
set_option linter.unusedSimpArgs false

theorem strN_extract (l : List Nat) (i j : Nat) : (strN l).extract i j = strN ((l.drop i).take (j - i)) := by
  have h : ∀ m : List Nat, strN m = ByteArray.mk (m.map fun n => UInt8.ofNat n).toArray := by
    intro m; apply ByteArray.ext; apply Array.toList_inj.1; rw [strN_data]
  rw [h, h, ByteArray.extract_mk]
  simp [List.map_take, List.map_drop]
theorem strN_append (a b : List Nat) : strN a ++ strN b = strN (a ++ b) := by
  apply ByteArray.ext; apply Array.toList_inj.1
  rw [strN_data, List.map_append, ← strN_data a, ← strN_data b]
  simp
theorem run_slice_strN {w : World} (l : List Nat) (k1 k2 : IntKind) (i j : Nat) (h1 : i ≤ j) (h2 : j ≤ l.length) :
    (Instr.sliceAt 9 (.string (strN l)) (some (.int k1 (i : Int))) (some (.int k2 (j : Int))) none).run Tryd.prog w = .ok (.string (strN ((l.drop i).take (j - i)))) w := by
  have hs : ((strN l).size : Int) = l.length := by rw [strN_size]
  rw [run_sliceAt_string w 9 _ _ _ _ Tryd.underlying9, ← strN_extract]
  simp [Instr.slice, run_underlying Tryd.underlying9, Instr.sliceBounds, run_sliceBound, strN_size, h1, h2]
theorem quiet_slice {o : Oper} {a : Act} {C : World → Prop} {w : World} (x i j : Operand) (ho : o.op = .slice 9 x (some i) (some j) none) (l : List Nat) (hx : a.eval x = .string (strN l)) (k1 k2 : IntKind) (p q : Nat) (hi : a.eval i = .int k1 (p : Int)) (hj : a.eval j = .int k2 (q : Int)) (h1 : p ≤ q) (h2 : q ≤ l.length) :
    Oper.quietAt Tryd.prog o a C w (.string (strN ((l.drop p).take (q - p)))) := by
  unfold Oper.quietAt execOp
  simp only [ho, hx, Option.map, hi, hj, Sem.run_bind, Sem.run_pure, Result.andThen_ok, run_slice_strN l k1 k2 p q h1 h2]
  exact ⟨rfl, rfl⟩
theorem quiet_cat {o : Oper} {a : Act} {C : World → Prop} {w : World} (x y : Operand) (ho : o.op = .binOp .add 9 x y 9) (l m : List Nat) (hx : a.eval x = .string (strN l)) (hy : a.eval y = .string (strN m)) (h : l.length + m.length ≤ 9223372036854775807) :
    Oper.quietAt Tryd.prog o a C w (.string (strN (l ++ m))) := by
  unfold Oper.quietAt execOp
  have hr := run_string_add_sum (P := Tryd.prog) (w := w) (strN l) (strN m) (by rw [strN_size, strN_size]; exact h)
  simp only [ho, hx, hy]
  simp [go_sem, binOp_string_add, Sem.run_bind, hr, strN_append]
end Go.Proofs.YtfgpoclflikhmaaDoor

/-
  EqKit.
-/
import Derived.Test.YteockpllnhjooaaGreatDoorQL05
import Derived.DeepKeys
namespace Go.Proofs.YteockpllnhjooaaGreatDoor
open Go.RowKit NumMath
set_option maxRecDepth 100000
set_option linter.unusedVariables false
set_option linter.unusedSimpArgs false

theorem run_part8 {w : World} (cs : List Value) (i : Nat) (v : Value) (hv : cs[i]? = some v) : (part 5 cs.toArray (i * 1)).run Tryz.prog w = .ok v w := by
  cases hq : Tryz.prog.info? 5 with
  | none => have := size5; simp [hq] at this
  | some x =>
    have hx : x.size = 1 := by have := size5; simpa [hq] using this
    simp [part, Tryz.isAgg5, sizeOf, typeInfo, hq, hx]
    rw [hv]; rfl
theorem eqItems_same {w : World} (l : List Nat) : ∀ is : List Nat, (∀ i ∈ is, i < l.length) → (Op.eqItems 9999 5 1 (u8v l).toArray (u8v l).toArray is).run Tryz.prog w = .ok true w
  | [], _ => rfl
  | i :: is, h => by
    have hi := h i (by simp)
    have hp := run_part8 (w := w) (u8v l) i (.int .u8 ((l[i]?.getD 0 : Nat) : Int)) (by simp [u8v, hi])
    have he := run_equalIn_int (P := Tryz.prog) w 9998 5 .u8 .u8 ((l[i]?.getD 0 : Nat) : Int) ((l[i]?.getD 0 : Nat) : Int) Tryz.underlying5
    simp only [Op.eqItems, Sem.run_bind, hp, Result.andThen_ok, he]
    simp
    exact eqItems_same l is (fun j hj => h j (by simp [hj]))
theorem cells5 : Tryz.prog.cellsOf 5 = 1 := by kernel_rfl
theorem eq_same (l : List Nat) (hl : l.length = 32) (w : World) : (Op.equalIn 10000 33 (.agg (u8v l).toArray) (.agg (u8v l).toArray)).run Tryz.prog w = .ok true w := by
  obtain ⟨i, hi⟩ : ∃ i, Tryz.prog.info? 5 = some i := by
    cases hq : Tryz.prog.info? 5 with
    | none => have := size5; simp [hq] at this
    | some x => exact ⟨x, rfl⟩
  have h := run_equalIn_array (P := Tryz.prog) w 9999 (t := 33) (u8v l).toArray (u8v l).toArray Tryz.underlying33 hi
  rw [h, cells5]
  exact eqItems_same l (List.range 32) (by intro i hi; rw [hl]; exact List.mem_range.1 hi)
end Go.Proofs.YteockpllnhjooaaGreatDoor

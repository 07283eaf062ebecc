/-
  Walks of sha.Less and newsreelref1.IdLess.
-/
import Derived.Test.YtfgpoclflikhmaaDoorTextKit
import Derived.Test.YtfgpoclflikhmaaDoorFnShaSum
namespace Go.Proofs.YtfgpoclflikhmaaDoor
open Go.RowKit NumMath
set_option maxRecDepth 100000
set_option linter.unusedVariables false
set_option linter.unusedSimpArgs false
attribute [-simp] Tryd.isAgg49 Tryd.zeroValue49 Tryd.isAgg26 Tryd.zeroValue26

theorem shaLess_any (xs ys : List Nat) (w : World) (hx : xs.length = 32) (hy : ys.length = 32) (bx : ∀ c ∈ xs, c < 256) (yb : ∀ c ∈ ys, c < 256) :
    Calls Tryd.prog 18 #[.agg (u8v xs).toArray, .agg (u8v ys).toArray] w fun e w' => e = .returned (.bool (ShaMath.lexLt xs ys)) ∧ Below w.heap.size w w' := by
  have HE : Hid _ := lex_compare xs ys bx yb
  have HC : Hid (∀ n, Calls Tryd.prog 26 #[.slice (some ⟨w.heap.size, 0, none⟩) 32 32, .slice (some ⟨w.heap.size + 1, 0, none⟩) 32 32] ((((w.alloc (Obj.cells (u8v xs).toArray 26)).alloc (Obj.cells (u8v ys).toArray 26))).drewN n) fun e w' => e = .returned (.int .i64 (Lib.compareBytes (Lib.bytesOf (ints xs)) (Lib.bytesOf (ints ys)))) ∧ w' = (((w.alloc (Obj.cells (u8v xs).toArray 26)).alloc (Obj.cells (u8v ys).toArray 26))).drewN n) := by
    intro n
    have := compare_any w.heap.size 26 (w.heap.size + 1) 26 xs ys ((((w.alloc (Obj.cells (u8v xs).toArray 26)).alloc (Obj.cells (u8v ys).toArray 26))).drewN n) (Arr.drewN ((Arr.new w 26 _ rfl).alloc _) n) (Arr.drewN (Arr.new _ 26 _ (by simp)) n)
    rwa [hx, hy] at this
  have HBl : Hid (Below w.heap.size w ((w.alloc (Obj.cells (u8v xs).toArray 26)).alloc (Obj.cells (u8v ys).toArray 26))) := ((Below.refl _ _).alloc (Nat.le_refl _) _).alloc (by simp) _
  generalize Lib.compareBytes (Lib.bytesOf (ints xs)) (Lib.bytesOf (ints ys)) = r at *
  generalize u8v xs = X at *
  generalize u8v ys = Y at *
  go_enter Tryd.func18, Tryd.ntmps18
  go_wp2_with fail
  go_quiet (exact Calls.quiet_of_same (HC.out _))
  go_wp2
  go_ret
  exact ⟨by rw [← HE.out]; rfl, Below.drewN HBl.out _⟩

theorem idLess_any (xs ys : List Nat) (w : World) (hx : xs.length = 32) (hy : ys.length = 32) :
    Calls Tryd.prog 19 #[.agg (u8v xs).toArray, .agg (u8v ys).toArray] w fun e w' => e = .returned (.bool (ShaMath.lexLt xs ys)) ∧ Below w.heap.size w w' := by
  have HAx : Hid (Arr ((w.alloc (Obj.cells (u8v xs).toArray 26)).alloc (Obj.cells (u8v ys).toArray 26)) w.heap.size 26 (u8v xs)) := (Arr.new w 26 _ rfl).alloc _
  have HAy : Hid (Arr ((w.alloc (Obj.cells (u8v xs).toArray 26)).alloc (Obj.cells (u8v ys).toArray 26)) (w.heap.size + 1) 26 (u8v ys)) := Arr.new _ 26 _ (by simp)
  have HBl : Hid (Below w.heap.size w ((w.alloc (Obj.cells (u8v xs).toArray 26)).alloc (Obj.cells (u8v ys).toArray 26))) := ((Below.refl _ _).alloc (Nat.le_refl _) _).alloc (by simp) _
  have HX : Hid _ := hx
  have HY : Hid _ := hy
  go_enter Tryd.func19, Tryd.ntmps19
  go_wp2_with fail
  generalize ((w.alloc (Obj.cells (u8v xs).toArray 26)).alloc (Obj.cells (u8v ys).toArray 26)) = w1 at *
  obtain ⟨g3, hg3⟩ : ∃ g, g = w.heap.size + 1 := ⟨_, rfl⟩
  rw [← hg3] at HAy ⊢
  generalize (u8v xs).toArray = X
  generalize (u8v ys).toArray = Y
  clear hg3 hx hy
  go_loopw [5] (fun i wr => ∃ (k n : Nat), k ≤ 32 ∧ i = .int .i64 k ∧ (∀ i, i < k → xs[i]?.getD 0 = ys[i]?.getD 0) ∧ wr = w1.drewN n) (fun i _ => 32 - (intOf i).toNat)
  case atStart => exact ⟨0, 0, by omega, rfl, (by intro i hi; omega), rfl⟩
  case round =>
    obtain ⟨k, n, hk, rfl, hpre, rfl⟩ := hrel
    by_cases hlt : k < 32
    · have hlx := HX.out
      have hly := HY.out
      have cx := Arr.cell8 HAx.out k (by omega)
      have cy := Arr.cell8 HAy.out k (by omega)
      have hlt' := ShaMath.lex_at k xs ys hpre (by omega) (by omega)
      have HLT : Hid _ := hlt'
      have HPR : Hid (xs[k]?.getD 0 = ys[k]?.getD 0 → ∀ i, i < k + 1 → xs[i]?.getD 0 = ys[i]?.getD 0) := by
        intro e i hi
        rcases (by omega : i < k ∨ i = k) with h | h
        · exact hpre i h
        · rw [h]; exact e
      have hkI : (k : Int) < 32 := by omega
      clear hlt' hpre hlx hly
      generalize xs[k]?.getD 0 = p at *
      generalize ys[k]?.getD 0 = q at *
      by_cases hpq : p = q
      · have hne : ((p : Int) != (q : Int)) = false := by simp [hpq]
        have HPQ : Hid _ := hpq
        clear hpq
        go_wp2_with fail
        go_quiet (fail)
        go_wp2
        go_roundw
        case rel => exact ⟨k + 1, _, by omega, by go_num, HPR.out HPQ.out, rfl⟩
        case measure => simp [intOf]; omega
      · have hne : ((p : Int) != (q : Int)) = true := by simp; omega
        have HPQ : Hid _ := hpq
        clear hpq
        go_wp2_with fail
        go_quiet (fail)
        go_wp2_with fail
        go_quiet (fail)
        go_wp2
        go_ret
        refine ⟨?_, Below.drewN (Below.drewN (Below.drewN HBl.out _) _) _⟩
        rw [HLT.out HPQ.out]
        exact congrArg (fun b => Ending.returned (Value.bool b)) (by simp)
    · obtain rfl : k = 32 := by omega
      have hs := ShaMath.lex_same xs ys (by rw [HX.out]; exact hpre) (by rw [HX.out, HY.out])
      have HS : Hid _ := hs
      clear hpre hs
      go_wp2
      go_ret
      exact ⟨by rw [HS.out]; rfl, Below.drewN HBl.out _⟩

end Go.Proofs.YtfgpoclflikhmaaDoor

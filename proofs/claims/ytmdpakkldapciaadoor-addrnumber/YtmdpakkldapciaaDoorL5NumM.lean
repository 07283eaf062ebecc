/-
  Which ports are told (for newsreellaw5.AddrNumber).
-/
import Derived.Test.YtmdpakkldapciaaDoorFnDec
import Derived.Test.YtmdpakkldapciaaDoorL5Known
namespace Go.Proofs.YtmdpakkldapciaaDoor
open Go.RowKit NumMath
open AddrMath (pre post is No colon lower way dots combine finish parse http https isHost isPort value usual Sch Parts5 hostOf)
set_option maxRecDepth 100000
set_option linter.unusedVariables false
set_option linter.unusedSimpArgs false

/-- Path and query of the given addresses. -/
def rests : List (List Nat × List Nat) := [([47], []), ([47, 102, 101, 101, 100], []), ([47, 120], [63, 121, 61, 49]), ([47, 37, 67, 51, 37, 66, 67], []), ([47, 122, 47], [])]
def xy : List Nat := [120, 46, 121]
theorem rest_ways : ∀ r ∈ rests, (match way true r.1.tail, way true r.2.tail with | some p, some y => decide (dots p ++ (if r.2 = [] then [] else 63 :: y) = r.1 ++ r.2) | _, _ => false) = true := by decide +kernel
theorem no_dec (n c : Nat) (h : c < 48 ∨ 57 < c) : No (is c) (decL n) := by
  intro x hx
  have := decL_digit n x hx
  simp [is]; omega
theorem rest_parts : ∀ r ∈ rests, AddrMath.Ends (is 47) r.1 ∧ No (is 63) r.1 ∧ No (is 35) r.1 ∧ AddrMath.Ends (is 63) r.2 ∧ No (is 35) r.2 ∧ (r.1 ++ r.2).length ≤ 10 ∧ (∀ c ∈ r.1 ++ r.2, c < 256) := by
  intro r hr
  simp only [rests, List.mem_cons, List.not_mem_nil, or_false] at hr
  rcases hr with rfl | rfl | rfl | rfl | rfl
  all_goals
    refine ⟨AddrMath.Ends.cons (by rfl) _, ?_, ?_, ?_, ?_, by decide, by decide⟩
    · intro x hx; revert x; decide
    · intro x hx; revert x; decide
    · first | exact AddrMath.Ends.nil _ | exact AddrMath.Ends.cons (by rfl) _
    · intro x hx; revert x; decide
theorem parts_xy {po : List Nat} {r : List Nat × List Nat} (hr : r ∈ rests) (h0 : AddrMath.Ends (is 58) po) (h1 : No (is 47) po) (h2 : No (is 63) po) (h3 : No (is 35) po) : Parts5 xy po r.1 r.2 [] := by
  obtain ⟨a, b, c, d, e, _⟩ := rest_parts r hr
  exact ⟨by intro x hx; revert x; decide, by intro x hx; revert x; decide, by intro x hx; revert x; decide, by intro x hx; revert x; decide, h0, h1, h2, h3, a, b, c, d, e, AddrMath.Ends.nil _⟩
theorem comb_xy {sch po : List Nat} {r : List Nat × List Nat} (hr : r ∈ rests) : combine sch xy po r.1 r.2 = if po.isEmpty || isPort po.tail then some (sch ++ (colon ++ (xy ++ ((if po = [] ∨ po.tail = usual sch then [] else po) ++ (r.1 ++ r.2))))) else none := by
  have hw := rest_ways r hr
  unfold combine
  rw [show isHost (lower xy) = true by decide +kernel, Bool.true_and]
  revert hw
  cases way true r.1.tail with
  | none => exact fun h => (by cases h)
  | some p =>
    cases way true r.2.tail with
    | none => exact fun h => (by cases h)
    | some y =>
      intro hw
      have hw := of_decide_eq_true hw
      show (if _ then some (sch ++ (colon ++ (lower xy ++ (_ ++ (dots p ++ (if r.2 = [] then [] else 63 :: y)))))) else none) = _
      rw [hw]
      rw [show lower xy = xy by decide]
/-- No port told. -/
theorem parse_bare {sch : List Nat} (hS : Sch sch) {r : List Nat × List Nat} (hr : r ∈ rests) : parse (sch ++ (colon ++ (xy ++ (r.1 ++ r.2)))) = (sch ++ (colon ++ (xy ++ (r.1 ++ r.2))), 0) := by
  have h := AddrMath.parse_parts (u := sch) hS.lower hS (parts_xy (po := []) hr (AddrMath.Ends.nil _) (by intro x hx; cases hx) (by intro x hx; cases hx) (by intro x hx; cases hx))
  rw [comb_xy hr] at h
  have hl := (rest_parts r hr).2.2.2.2.2.1
  have hs5 : sch.length ≤ 5 := by rcases hS with e | e <;> rw [e] <;> decide
  simp only [List.append_nil, List.nil_append, List.isEmpty_nil, Bool.true_or, if_true, true_or] at h
  rw [h]
  unfold finish
  simp only
  rw [if_pos]
  simp only [List.length_append, colon, xy, List.length_cons, List.length_nil] at hl ⊢
  omega
/-- A number told. -/
theorem parse_port {sch : List Nat} (hS : Sch sch) {r : List Nat × List Nat} (hr : r ∈ rests) (p : Nat) (hp : p < 100000) :
    parse (sch ++ (colon ++ (xy ++ ((58 :: decL p) ++ (r.1 ++ r.2))))) = if p = usualN sch then (sch ++ (colon ++ (xy ++ (r.1 ++ r.2))), 0) else if p < 1 ∨ 65535 < p then ([], 25) else (sch ++ (colon ++ (xy ++ ((58 :: decL p) ++ (r.1 ++ r.2)))), 0) := by
  have hno : ∀ c, c ≠ 58 → (c < 48 ∨ 57 < c) → No (is c) (58 :: decL p) := by
    intro c h1 h2 x hx
    rcases List.mem_cons.1 hx with h | h
    · rw [h]; simp [is]; omega
    · exact no_dec p c h2 x h
  have h := AddrMath.parse_parts (u := sch) hS.lower hS (parts_xy (po := 58 :: decL p) hr (AddrMath.Ends.cons (by rfl) _) (hno 47 (by decide) (by decide)) (hno 63 (by decide) (by decide)) (hno 35 (by decide) (by decide)))
  rw [comb_xy hr] at h
  have hl := (rest_parts r hr).2.2.2.2.2.1
  have hs5 : sch.length ≤ 5 := by rcases hS with e | e <;> rw [e] <;> decide
  have hdl := decL_len 4 p (by simpa using hp)
  have hus : 1 ≤ usualN sch ∧ usualN sch ≤ 65535 := by unfold usualN; split <;> omega
  simp only [List.append_nil, List.isEmpty_cons, Bool.false_or, List.tail_cons, reduceCtorEq, false_or] at h
  rw [h, decL_port hp]
  have hfin : ∀ x : List Nat, x.length ≤ 200 → finish (some x) = (x, 0) := by
    intro x hx
    unfold finish
    simp only
    rw [if_pos hx]
  by_cases hr1 : 1 ≤ p ∧ p ≤ 65535
  · rw [decide_eq_true hr1]
    have hu := usual_num (sch := sch) (p := decL p) (by rw [decL_port hp]; exact decide_eq_true hr1)
    rw [decL_value] at hu
    simp only [if_true]
    by_cases hpu : p = usualN sch
    · rw [if_pos (hu.2 hpu), if_pos hpu, List.nil_append, hfin]
      simp only [List.length_append, colon, xy, List.length_cons, List.length_nil] at hl ⊢
      omega
    · rw [if_neg (fun e => hpu (hu.1 e)), if_neg hpu, if_neg (by omega), hfin]
      simp only [List.length_append, colon, xy, List.length_cons, List.length_nil] at hl ⊢
      omega
  · have hpu : ¬ p = usualN sch := by intro e; omega
    have hpr : p < 1 ∨ 65535 < p := by omega
    rw [decide_eq_false hr1, if_neg hpu, if_pos hpr]
    rfl
end Go.Proofs.YtmdpakkldapciaaDoor

/-
  Appends of dots at a step of a region that draws its order. And: pieces of slices of dots.
-/
import Derived.Test.YtehaeepihjookaaDotOwn
namespace Go.Proofs.Ytehaeepihjookaa
open Go.RowKit NumMath
open DotMath (Dt)
set_option maxRecDepth 100000
set_option linter.unusedVariables false
set_option linter.unusedSimpArgs false

section
variable {o : Oper} {a : Act} {w : World} {K : Act → World → Prop} {Q : Exit → Act → World → Prop}
theorem wp_app_dots (s x : Operand) (ho : o.op = .call { callee := .builtin .append, args := #[s, x], argTypes := #[25, 25] })
    (base : Nat) (v : Value) (ds : List Dt) (hs : a.eval s = v) (hown : DOwn w base v ds) (ao : Option Addr) (c : Nat) (es : List Dt) (n : Nat) (hn : n = es.length) (hx : a.eval x = .slice ao n c) (hr : DRow w ao es) (hnil : ao = none → c = 0) (hc : n ≤ c)
    (hl : ds.length + es.length ≤ 8796093022208) (hbase : base ≤ w.heap.size)
    (h : ∀ v' w', DOwn w' base v' (ds ++ es) → w.grownBy w' v.ownBlock → K (a.put o.dst v') w') : o.wp Try.prog a w K Q := by
  subst hn
  obtain ⟨i0, hi, hz0, hz1, hz2⟩ := info_parts infoDt
  cases ao with
  | some ad =>
    refine wp_append_own w s x 25 ho base 23 i0 (dtV DotMath.zero) 2 16 Try.underlying25 hi hz0 hz1 hz2 rfl (by decide) v ds.length (flatD ds) hs hown.own ad es.length c (flatD es) hx (flatD_len es) (hr.news ad rfl) (flatD_one es) (by unfold maxLen; omega) (by omega) hbase ?_
    intro v' w' h1 h2 _
    refine h v' w' ⟨?_⟩ h2
    rw [List.length_append, flatD_append]; exact h1
  | none =>
    have hc0 := hnil rfl
    obtain rfl : es = [] := List.eq_nil_of_length_eq_zero (by omega)
    obtain rfl := hc0
    have hrun := run_append_owned_none (P := Try.prog) (w := w) base 25 o.type 23 i0 2 Try.underlying25 hi v ds.length (flatD ds) hown.own
    unfold Oper.wp
    simp only [List.length_nil] at hx
    simp [execOp, ho, resolve, invoke, builtin, hs, hx, hrun, Result.andThen]
    exact h v w (by simpa using hown) (World.grownBy.refl _ _)
theorem wp_app_full (s x : Operand) (ho : o.op = .call { callee := .builtin .append, args := #[s, x], argTypes := #[25, 25] })
    (ao : Option Addr) (ds : List Dt) (k : Nat) (hk : k = ds.length) (hs : a.eval s = .slice ao k k) (hd : DRow w ao ds) (ad : Addr) (c : Nat) (es : List Dt) (n : Nat) (hn : n = es.length) (hx : a.eval x = .slice (some ad) n c) (hr : DRow w (some ad) es) (hpos : 0 < n)
    (hnone : ao = none → k = 0) (hl : ds.length + es.length ≤ 8796093022208)
    (h : ∀ v' w', DOwn w' w.heap.size v' (ds ++ es) → w.grownBy w' none → K (a.put o.dst v') w') : o.wp Try.prog a w K Q := by
  subst hk hn
  obtain ⟨i0, hi, hz0, hz1, hz2⟩ := info_parts infoDt
  have fin : ∀ v' w', w'.ownsRow w.heap.size 23 2 v' (ds.length + es.length) (flatD ds ++ flatD es) → w.grownBy w' none → K (a.put o.dst v') w' := fun v' w' h1 h2 => h v' w' ⟨by rw [List.length_append, flatD_append]; exact h1⟩ h2
  cases ao with
  | some b =>
    obtain ⟨v', w', hrun, r1, r2⟩ := run_append_arg_grows (P := Try.prog) w 25 o.type 23 i0 (dtV DotMath.zero) 2 16 Try.underlying25 hi hz0 hz1 hz2 rfl (by decide) b ds.length ds.length (flatD ds) (flatD_len ds) (hd.news b rfl) ad es.length c (flatD es) (flatD_len es) (hr.news ad rfl) (by omega) (by unfold maxLen; omega) (by omega)
    unfold Oper.wp
    simp [execOp, ho, resolve, invoke, builtin, hs, hx, hrun, Result.andThen]
    exact fin _ _ r1 r2
  | none =>
    have h0 := hnone rfl
    obtain rfl : ds = [] := List.eq_nil_of_length_eq_zero h0
    obtain ⟨v', w', hrun, r1, r2, _⟩ := run_append_own (P := Try.prog) w w.heap.size 25 o.type 23 i0 (dtV DotMath.zero) 2 16 Try.underlying25 hi hz0 hz1 hz2 rfl (by decide) (.slice none 0 0) 0 [] (World.ownsRow_nil w _ _ 2) ad es.length c (flatD es) (flatD_len es) (hr.news ad rfl) (flatD_one es) (by unfold maxLen; omega) (by omega) (Nat.le_refl _)
    unfold Oper.wp
    simp only [List.length_nil] at hs
    simp [execOp, ho, resolve, invoke, builtin, hs, hx, hrun, Result.andThen]
    exact fin _ _ (by rw [flatD_nil]; simpa using r1) (by simpa [Value.ownBlock] using r2)
end

theorem cutD_from {b off L cap p : Nat} (h1 : p ≤ L) (h2 : L ≤ cap) (w : World) : (Instr.sliceAt 25 (.slice (some ⟨b, off, none⟩) L cap) (some (.int .i64 (p : Int))) none none).run Try.prog w = .ok (.slice (if cap = p then some ⟨b, off, none⟩ else some ⟨b, off + p * 2, none⟩) (L - p) (cap - p)) w := by
  have h3 : (p : Int) ≤ (L : Int) := by omega
  have h4 : (L : Int) ≤ (cap : Int) := by omega
  go_simp
theorem cutD_to {b off L cap p : Nat} (h1 : p ≤ L) (h2 : L ≤ cap) (w : World) : (Instr.sliceAt 25 (.slice (some ⟨b, off, none⟩) L cap) none (some (.int .i64 (p : Int))) (some (.int .i64 (p : Int)))).run Try.prog w = .ok (.slice (some ⟨b, off, none⟩) p p) w := by
  have h3 : (p : Int) ≤ (cap : Int) := by omega
  have h4 : (0 : Int) ≤ (p : Int) := by omega
  go_simp
theorem cutD_from_nil (w : World) : (Instr.sliceAt 25 (.slice none 0 0) (some (.int .i64 0)) none none).run Try.prog w = .ok (.slice none 0 0) w := by go_simp
theorem cutD_to_nil (w : World) : (Instr.sliceAt 25 (.slice none 0 0) none (some (.int .i64 0)) (some (.int .i64 0))).run Try.prog w = .ok (.slice none 0 0) w := by go_simp
theorem cut0_to (ad : Addr) (cap : Nat) (w : World) : (Instr.sliceAt 25 (.slice (some ad) 0 cap) none (some (.int .i64 0)) (some (.int .i64 0))).run Try.prog w = .ok (.slice (some ad) 0 0) w := by go_simp
theorem cut0_from (ad : Addr) (cap : Nat) (w : World) : (Instr.sliceAt 25 (.slice (some ad) 0 cap) (some (.int .i64 0)) none none).run Try.prog w = .ok (.slice (some ad) 0 cap) w := by go_simp
/-- Both pieces of a slice of dots: what stands ahead of p, with no room behind, and what stands from p on. -/
theorem cuts_of {w : World} {ao : Option Addr} {ds : List Dt} {L cap p : Nat} (hr : DRow w ao ds) (hL : L = ds.length) (hc : L ≤ cap) (hn : ao = none → cap = 0) (hp : p ≤ L) :
    ∃ (at1 at2 : Option Addr), (∀ w', (Instr.sliceAt 25 (.slice ao L cap) none (some (.int .i64 (p : Int))) (some (.int .i64 (p : Int)))).run Try.prog w' = .ok (.slice at1 p p) w') ∧
      (∀ w', (Instr.sliceAt 25 (.slice ao L cap) (some (.int .i64 (p : Int))) none none).run Try.prog w' = .ok (.slice at2 (L - p) (cap - p)) w') ∧
      DRow w at1 (ds.take p) ∧ DRow w at2 (ds.drop p) ∧ (at1 = none → p = 0) ∧ (at2 = none → cap - p = 0) := by
  cases ao with
  | none =>
    have h0 := hn rfl
    obtain rfl : cap = 0 := h0
    obtain rfl : L = 0 := by omega
    obtain rfl : p = 0 := by omega
    refine ⟨none, none, fun w' => cutD_to_nil w', fun w' => cutD_from_nil w', ?_, ?_, fun _ => rfl, fun _ => rfl⟩
    · simpa using DRow.nil w none
    · have : ds = [] := List.eq_nil_of_length_eq_zero hL.symm
      rw [this]; exact DRow.nil w none
  | some ad =>
    by_cases h0 : ds.length = 0
    · obtain rfl : ds = [] := List.eq_nil_of_length_eq_zero h0
      obtain rfl : L = 0 := by simpa using hL
      obtain rfl : p = 0 := by omega
      exact ⟨some ad, some ad, fun w' => cut0_to ad cap w', fun w' => cut0_from ad cap w', DRow.nil w _, DRow.nil w _, by simp, by simp⟩
    · obtain ⟨b, off, ha, _⟩ := DRow.at hr (by omega)
      rw [ha] at hr ⊢
      refine ⟨some ⟨b, off, none⟩, if cap = p then some ⟨b, off, none⟩ else some ⟨b, off + p * 2, none⟩, fun w' => cutD_to hp hc w', fun w' => cutD_from hp hc w', hr.take p, ?_, by simp, ?_⟩
      · by_cases e : cap = p
        · have : ds.drop p = [] := List.eq_nil_of_length_eq_zero (by simp; omega)
          rw [this]; exact DRow.nil w _
        · rw [if_neg e]; exact hr.drop p
      · intro h
        by_cases e : cap = p
        · omega
        · rw [if_neg e] at h; cases h
end Go.Proofs.Ytehaeepihjookaa

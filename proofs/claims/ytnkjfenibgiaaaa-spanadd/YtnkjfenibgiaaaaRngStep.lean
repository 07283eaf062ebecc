/-
  Appends of ranges at a step of a region that draws its order. And: pieces of slices of ranges.
-/
import Derived.Test.YtnkjfenibgiaaaaRngOwn
namespace Go.Proofs.Ytnkjfenibgiaaaa
open Go.RowKit NumMath
open SpanMath (Rg)
set_option maxRecDepth 100000
set_option linter.unusedVariables false
set_option linter.unusedSimpArgs false

section
variable {o : Oper} {a : Act} {w : World} {K : Act → World → Prop} {Q : Exit → Act → World → Prop}
theorem wp_app_rngs (s x : Operand) (ho : o.op = .call { callee := .builtin .append, args := #[s, x], argTypes := #[22, 22] })
    (base : Nat) (v : Value) (ds : List Rg) (hs : a.eval s = v) (hown : GOwn w base v ds) (ao : Option Addr) (c : Nat) (es : List Rg) (n : Nat) (hn : n = es.length) (hx : a.eval x = .slice ao n c) (hr : GRow w ao es) (hnil : ao = none → c = 0) (hc : n ≤ c)
    (hl : ds.length + es.length ≤ 8796093022208) (hbase : base ≤ w.heap.size)
    (h : ∀ v' w', GOwn w' base v' (ds ++ es) → w.grownBy w' v.ownBlock → K (a.put o.dst v') w') : o.wp Try.prog a w K Q := by
  subst hn
  obtain ⟨i0, hi, hz0, hz1, hz2⟩ := info_parts infoRg
  cases ao with
  | some ad =>
    refine wp_append_own w s x 22 ho base 24 i0 (rgV SpanMath.zero) 2 16 Try.underlying22 hi hz0 hz1 hz2 rfl (by decide) v ds.length (flatG ds) hs hown.own ad es.length c (flatG es) hx (flatG_len es) (hr.news ad rfl) (flatG_one es) (by unfold maxLen; omega) (by omega) hbase ?_
    intro v' w' h1 h2 _
    refine h v' w' ⟨?_⟩ h2
    rw [List.length_append, flatG_append]; exact h1
  | none =>
    have hc0 := hnil rfl
    obtain rfl : es = [] := List.eq_nil_of_length_eq_zero (by omega)
    obtain rfl := hc0
    have hrun := run_append_owned_none (P := Try.prog) (w := w) base 22 o.type 24 i0 2 Try.underlying22 hi v ds.length (flatG ds) hown.own
    unfold Oper.wp
    simp only [List.length_nil] at hx
    simp [execOp, ho, resolve, invoke, builtin, hs, hx, hrun, Result.andThen]
    exact h v w (by simpa using hown) (World.grownBy.refl _ _)
theorem wp_app_fullG (s x : Operand) (ho : o.op = .call { callee := .builtin .append, args := #[s, x], argTypes := #[22, 22] })
    (ao : Option Addr) (ds : List Rg) (k : Nat) (hk : k = ds.length) (hs : a.eval s = .slice ao k k) (hd : GRow w ao ds) (ad : Addr) (c : Nat) (es : List Rg) (n : Nat) (hn : n = es.length) (hx : a.eval x = .slice (some ad) n c) (hr : GRow w (some ad) es) (hpos : 0 < n)
    (hnone : ao = none → k = 0) (hl : ds.length + es.length ≤ 8796093022208)
    (h : ∀ v' w', GOwn w' w.heap.size v' (ds ++ es) → w.grownBy w' none → K (a.put o.dst v') w') : o.wp Try.prog a w K Q := by
  subst hk hn
  obtain ⟨i0, hi, hz0, hz1, hz2⟩ := info_parts infoRg
  have fin : ∀ v' w', w'.ownsRow w.heap.size 24 2 v' (ds.length + es.length) (flatG ds ++ flatG es) → w.grownBy w' none → K (a.put o.dst v') w' := fun v' w' h1 h2 => h v' w' ⟨by rw [List.length_append, flatG_append]; exact h1⟩ h2
  cases ao with
  | some b =>
    obtain ⟨v', w', hrun, r1, r2⟩ := run_append_arg_grows (P := Try.prog) w 22 o.type 24 i0 (rgV SpanMath.zero) 2 16 Try.underlying22 hi hz0 hz1 hz2 rfl (by decide) b ds.length ds.length (flatG ds) (flatG_len ds) (hd.news b rfl) ad es.length c (flatG es) (flatG_len es) (hr.news ad rfl) (by omega) (by unfold maxLen; omega) (by omega)
    unfold Oper.wp
    simp [execOp, ho, resolve, invoke, builtin, hs, hx, hrun, Result.andThen]
    exact fin _ _ r1 r2
  | none =>
    have h0 := hnone rfl
    obtain rfl : ds = [] := List.eq_nil_of_length_eq_zero h0
    obtain ⟨v', w', hrun, r1, r2, _⟩ := run_append_own (P := Try.prog) w w.heap.size 22 o.type 24 i0 (rgV SpanMath.zero) 2 16 Try.underlying22 hi hz0 hz1 hz2 rfl (by decide) (.slice none 0 0) 0 [] (World.ownsRow_nil w _ _ 2) ad es.length c (flatG es) (flatG_len es) (hr.news ad rfl) (flatG_one es) (by unfold maxLen; omega) (by omega) (Nat.le_refl _)
    unfold Oper.wp
    simp only [List.length_nil] at hs
    simp [execOp, ho, resolve, invoke, builtin, hs, hx, hrun, Result.andThen]
    exact fin _ _ (by rw [flatG_nil]; simpa using r1) (by simpa [Value.ownBlock] using r2)
end

theorem cutG_from {b off L cap p : Nat} (h1 : p ≤ L) (h2 : L ≤ cap) (w : World) : (Instr.sliceAt 22 (.slice (some ⟨b, off, none⟩) L cap) (some (.int .i64 (p : Int))) none none).run Try.prog w = .ok (.slice (if cap = p then some ⟨b, off, none⟩ else some ⟨b, off + p * 2, none⟩) (L - p) (cap - p)) w := by
  have h3 : (p : Int) ≤ (L : Int) := by omega
  have h4 : (L : Int) ≤ (cap : Int) := by omega
  go_simp
theorem cutG_to {b off L cap p : Nat} (h1 : p ≤ L) (h2 : L ≤ cap) (w : World) : (Instr.sliceAt 22 (.slice (some ⟨b, off, none⟩) L cap) none (some (.int .i64 (p : Int))) (some (.int .i64 (p : Int)))).run Try.prog w = .ok (.slice (some ⟨b, off, none⟩) p p) w := by
  have h3 : (p : Int) ≤ (cap : Int) := by omega
  have h4 : (0 : Int) ≤ (p : Int) := by omega
  go_simp
theorem cutG_from_nil (w : World) : (Instr.sliceAt 22 (.slice none 0 0) (some (.int .i64 0)) none none).run Try.prog w = .ok (.slice none 0 0) w := by go_simp
theorem cutG_to_nil (w : World) : (Instr.sliceAt 22 (.slice none 0 0) none (some (.int .i64 0)) (some (.int .i64 0))).run Try.prog w = .ok (.slice none 0 0) w := by go_simp
theorem cut0G_to (ad : Addr) (cap : Nat) (w : World) : (Instr.sliceAt 22 (.slice (some ad) 0 cap) none (some (.int .i64 0)) (some (.int .i64 0))).run Try.prog w = .ok (.slice (some ad) 0 0) w := by go_simp
theorem cut0G_from (ad : Addr) (cap : Nat) (w : World) : (Instr.sliceAt 22 (.slice (some ad) 0 cap) (some (.int .i64 0)) none none).run Try.prog w = .ok (.slice (some ad) 0 cap) w := by go_simp
/-- Both pieces of a slice of ranges: what stands ahead of p, with no room behind, and what stands from p on. -/
theorem cutsG_of {w : World} {ao : Option Addr} {ds : List Rg} {L cap p : Nat} (hr : GRow w ao ds) (hL : L = ds.length) (hc : L ≤ cap) (hn : ao = none → cap = 0) (hp : p ≤ L) :
    ∃ (at1 at2 : Option Addr), (∀ w', (Instr.sliceAt 22 (.slice ao L cap) none (some (.int .i64 (p : Int))) (some (.int .i64 (p : Int)))).run Try.prog w' = .ok (.slice at1 p p) w') ∧
      (∀ w', (Instr.sliceAt 22 (.slice ao L cap) (some (.int .i64 (p : Int))) none none).run Try.prog w' = .ok (.slice at2 (L - p) (cap - p)) w') ∧
      GRow w at1 (ds.take p) ∧ GRow w at2 (ds.drop p) ∧ (at1 = none → p = 0) ∧ (at2 = none → cap - p = 0) := by
  cases ao with
  | none =>
    have h0 := hn rfl
    obtain rfl : cap = 0 := h0
    obtain rfl : L = 0 := by omega
    obtain rfl : p = 0 := by omega
    refine ⟨none, none, fun w' => cutG_to_nil w', fun w' => cutG_from_nil w', ?_, ?_, fun _ => rfl, fun _ => rfl⟩
    · simpa using GRow.nil w none
    · have : ds = [] := List.eq_nil_of_length_eq_zero hL.symm
      rw [this]; exact GRow.nil w none
  | some ad =>
    by_cases h0 : ds.length = 0
    · obtain rfl : ds = [] := List.eq_nil_of_length_eq_zero h0
      obtain rfl : L = 0 := by simpa using hL
      obtain rfl : p = 0 := by omega
      exact ⟨some ad, some ad, fun w' => cut0G_to ad cap w', fun w' => cut0G_from ad cap w', GRow.nil w _, GRow.nil w _, by simp, by simp⟩
    · obtain ⟨b, off, ha, _⟩ := GRow.at hr (by omega)
      rw [ha] at hr ⊢
      refine ⟨some ⟨b, off, none⟩, if cap = p then some ⟨b, off, none⟩ else some ⟨b, off + p * 2, none⟩, fun w' => cutG_to hp hc w', fun w' => cutG_from hp hc w', hr.take p, ?_, by simp, ?_⟩
      · by_cases e : cap = p
        · have : ds.drop p = [] := List.eq_nil_of_length_eq_zero (by simp; omega)
          rw [this]; exact GRow.nil w _
        · rw [if_neg e]; exact hr.drop p
      · intro h
        by_cases e : cap = p
        · omega
        · rw [if_neg e] at h; cases h
end Go.Proofs.Ytnkjfenibgiaaaa

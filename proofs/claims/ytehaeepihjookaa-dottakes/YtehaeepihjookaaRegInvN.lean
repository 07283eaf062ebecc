/-
  As RegInv, and each step knows that its operation has not come up yet.
-/
import Derived.Test.YtehaeepihjookaaRegInv
namespace Go.Proofs.Ytehaeepihjookaa
open Go.RowKit
set_option maxRecDepth 100000
set_option linter.unusedVariables false
set_option linter.unusedSimpArgs false

section
variable {P : Program} {ops : Array Oper} {Q : Exit → Act → World → Prop} {md : Region.Mode}

/-- What each of the operations 'rs' does to the invariant. -/
def InvStepsN (P : Program) (md : Region.Mode) (ops : Array Oper) (Q : Exit → Act → World → Prop) (Inv : Array Bool → Act → World → Prop) (rs : List Nat) : Prop :=
  ∀ i ∈ rs, ∀ listed a w, listed.size = ops.size → listed.getD i false = false → Inv listed a w → (∀ o, ops[i]? = some o → ∀ e ∈ o.after, Region.binds md e = true → listed.getD e.on false = true) →
    wpOp P ops Q i (fun a' w' => Inv (listed.setIfInBounds i true) a' w') a w
theorem InvStepsN.nil {Inv : Array Bool → Act → World → Prop} : InvStepsN P md ops Q Inv [] := fun _ h => by cases h
theorem InvStepsN.cons {Inv : Array Bool → Act → World → Prop} {i : Nat} {o : Oper} {rs : List Nat} (ho : ops[i]? = some o)
    (h : ∀ listed a w, listed.size = ops.size → listed.getD i false = false → Inv listed a w → (∀ e ∈ o.after, Region.binds md e = true → listed.getD e.on false = true) →
      ∀ K' : Act → World → Prop, Shut (∀ a w, Inv (listed.setIfInBounds i true) a w → K' a w) → if Region.wanted o (yielded ops a.tmps) = true then Oper.wp P o a w K' Q else K' (a.put o.dst undef) w)
    (hs : InvStepsN P md ops Q Inv rs) : InvStepsN P md ops Q Inv (i :: rs) := fun j hj => by
  rcases List.mem_cons.1 hj with rfl | hj
  · intro listed a w hsz hni hI hd
    exact wpOp_step ho (fun K' hK => h listed a w hsz hni hI (fun e he hb => hd o ho e he hb) K' (fun a w hI => hK a w hI))
  · exact hs j hj

theorem wpAnyH_invN {Inv : Array Bool → Act → World → Prop} {L0 : Array Bool} {rs : List Nat} (hrs : toDo L0 = rs) (hord : inOrder md ops = true)
    (hstep : InvStepsN P md ops Q Inv rs) (hdone : ∀ listed a w, Inv listed a w → (∀ i, i < ops.size → listed.getD i false = true) → Q .normal a w) :
    ∀ fuel listed a w, listed.size = ops.size → L0.size = ops.size → (∀ j, L0.getD j false = true → listed.getD j false = true) → (toDo listed).length ≤ fuel → Inv listed a w → wpAnyH P md ops Q (fun _ => True) fuel listed a w := by
  intro fuel
  have key : ∀ (listed : Array Bool) (i : Nat), i ∈ Region.ready md ops listed → listed.size = ops.size → listed.getD i false = false ∧ i < ops.size := by
    intro listed i hi hsz
    obtain ⟨h1, o, ho, _⟩ := mem_ready.1 hi
    have hlt : i < ops.size := (Array.getElem?_eq_some_iff.1 ho).1
    have : i < listed.size := by omega
    simp [this] at h1 ⊢
    exact ⟨h1, hlt⟩
  induction fuel with
  | zero =>
    intro listed a w hsz hsz0 hl0 hf hI
    have hr : Region.ready md ops listed = [] := by
      apply List.eq_nil_iff_forall_not_mem.2
      intro i hi
      obtain ⟨h1, h2⟩ := key listed i hi hsz
      have h3 : toDo listed = [] := List.eq_nil_of_length_eq_zero (by omega)
      have : i ∈ toDo listed := by unfold toDo; rw [List.mem_filter, List.mem_range]; exact ⟨by omega, by rw [h1]; rfl⟩
      rw [h3] at this
      cases this
    exact ⟨hr, hdone listed a w hI (fun i hi => all_up hord hsz hr (i + 1) i (by omega) hi)⟩
  | succ fuel ih =>
    intro listed a w hsz hsz0 hl0 hf hI
    refine ⟨fun hr => hdone listed a w hI (fun i hi => all_up hord hsz hr (i + 1) i (by omega) hi), fun i hi => ?_⟩
    obtain ⟨h1, h2⟩ := key listed i hi hsz
    have hmem : i ∈ rs := by
      rw [← hrs]
      unfold toDo
      rw [List.mem_filter, List.mem_range]
      refine ⟨by omega, ?_⟩
      cases h : L0.getD i false with
      | false => rfl
      | true => rw [hl0 i h] at h1; cases h1
    obtain ⟨_, o, ho, hall⟩ := mem_ready.1 hi
    refine wpOp_mono (fun a' w' hI' => ⟨trivial, ih _ a' w' (by simpa using hsz) hsz0 ?_ ?_ hI'⟩) (hstep i hmem listed a w hsz h1 hI (fun o' ho' e he hb => by rw [ho] at ho'; cases ho'; exact hall e he hb))
    · intro j hj
      have := hl0 j hj
      by_cases e : i = j
      · subst e; simp [show i < listed.size by omega]
      · simp [Array.getElem?_setIfInBounds, e] at this ⊢; exact this
    · have hlt : (toDo (listed.setIfInBounds i true)).length < (toDo listed).length := by
        have hsub : toDo (listed.setIfInBounds i true) = (toDo listed).filter (fun j => decide (j ≠ i)) := by
          unfold toDo
          rw [List.filter_filter, Array.size_setIfInBounds]
          apply List.filter_congr
          intro j hj
          have hj' : j < listed.size := List.mem_range.1 hj
          by_cases e : i = j
          · subst e; simp [hj']
          · simp [Array.getElem?_setIfInBounds, e, hj', Ne.symm e]
        rw [hsub]
        have hin : i ∈ toDo listed := by unfold toDo; rw [List.mem_filter, List.mem_range]; exact ⟨by omega, by rw [h1]; rfl⟩
        exact List.length_filter_lt_length_iff_exists.2 ⟨i, hin, by simp⟩
      omega

/-- The same, the invariant told of the act at hand. -/
theorem wpAnyH_invN_at {Rel : Act → Array Bool → Act → World → Prop} {fuel : Nat} {listed : Array Bool} {a : Act} {w : World} {rs : List Nat} (hrs : toDo listed = rs) (hord : inOrder md ops = true)
    (hsz : listed.size = ops.size) (hf : (toDo listed).length ≤ fuel) (h0 : Rel a listed a w) (hstep : InvStepsN P md ops Q (Rel a) rs)
    (hdone : ∀ l a' w', Rel a l a' w' → (∀ i, i < ops.size → l.getD i false = true) → Q .normal a' w') : wpAnyH P md ops Q (fun _ => True) fuel listed a w :=
  wpAnyH_invN hrs hord hstep hdone fuel listed a w hsz hsz (fun _ h => h) hf h0

end
theorem up_set {l : Array Bool} {i j : Nat} (h : l.getD j false = true) : (l.setIfInBounds i true).getD j false = true := by
  by_cases e : i = j
  · subst e
    by_cases hi : i < l.size
    · simp [hi]
    · simp [Array.getElem?_eq_none (by omega : l.size ≤ i)] at h
  · simp [Array.getElem?_setIfInBounds, e] at h ⊢; exact h
theorem set_other {l : Array Bool} {i j : Nat} (hne : i ≠ j) : (l.setIfInBounds i true).getD j false = l.getD j false := by
  simp [Array.getElem?_setIfInBounds, hne]
theorem set_self {l : Array Bool} {i : Nat} (h : i < l.size) : (l.setIfInBounds i true).getD i false = true := by simp [h]
end Go.Proofs.Ytehaeepihjookaa

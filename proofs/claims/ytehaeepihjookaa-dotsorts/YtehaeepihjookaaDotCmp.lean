/-
  Dots as pairs: how they are compared, and what is left of a sorted row when it is compacted. Plain mathematics.
-/
import Derived.Test.YtehaeepihjookaaDotMath
import Derived.Lib.SlicesCompact
import Derived.Sort.Statements
namespace DotMath
open Go.Lib Go.Sort
set_option linter.unusedVariables false
set_option linter.unusedSimpArgs false

def pr (d : Dt) : Int × Int := (d.r, d.s)
def up (p : Int × Int) : Dt := ⟨p.1, p.2⟩
theorem up_pr (d : Dt) : up (pr d) = d := rfl
theorem pr_up (p : Int × Int) : pr (up p) = p := rfl
theorem up_inj {a b : Int × Int} (h : up a = up b) : a = b := by
  have := congrArg pr h
  simpa [pr_up] using this
def sg (x y : Int) : Int := if x < y then -1 else if y < x then 1 else 0
def cf (x y : Int × Int) : Int := if sg x.1 y.1 = 0 then sg x.2 y.2 else sg x.1 y.1
theorem sg_cases (x y : Int) : (x < y ∧ sg x y = -1) ∨ (y < x ∧ sg x y = 1) ∨ (x = y ∧ sg x y = 0) := by
  unfold sg
  by_cases h1 : x < y
  · left; rw [if_pos h1]; exact ⟨h1, rfl⟩
  · rw [if_neg h1]
    by_cases h2 : y < x
    · right; left; rw [if_pos h2]; exact ⟨h2, rfl⟩
    · right; right; rw [if_neg h2]; exact ⟨by omega, rfl⟩
theorem cf_lt (x y : Int × Int) : decide (cf x y < 0) = less (up x) (up y) := by
  unfold cf less up
  have h1 := sg_cases x.1 y.1
  have h2 := sg_cases x.2 y.2
  rw [decide_eq_decide]
  simp only []
  split <;> omega
theorem cf_gt (x y : Int × Int) : decide (0 < cf x y) = less (up y) (up x) := by
  unfold cf less up
  have h1 := sg_cases x.1 y.1
  have h2 := sg_cases x.2 y.2
  rw [decide_eq_decide]
  simp only []
  split <;> omega
theorem cf_bound (x y : Int × Int) : cf x y = -1 ∨ cf x y = 0 ∨ cf x y = 1 := by
  unfold cf
  have h1 := sg_cases x.1 y.1
  have h2 := sg_cases x.2 y.2
  split <;> omega
def lt2 (x y : Int × Int) : Bool := decide (cf x y < 0)
theorem lt2_eq (x y : Int × Int) : lt2 x y = less (up x) (up y) := cf_lt x y
theorem swo : SWO lt2 where
  irrefl x := by rw [lt2_eq]; exact less_irrefl _
  trans x y z h1 h2 := by rw [lt2_eq] at *; exact less_trans h1 h2
  ntrans x y z h1 h2 := by rw [lt2_eq, less_no] at *; omega

/-- What the compacted head of a sorted row is. -/
theorem compact_sorted (d : Array (Int × Int)) (hs : SortedIn lt2 0 d.size d) : ∀ m, m ≤ d.size →
    Rise ((compactUpTo d m).map up) ∧ (∀ x, x ∈ (compactUpTo d m).map up ↔ ∃ j, j < m ∧ up d[j]! = x) ∧ (∀ x ∈ (compactUpTo d m).map up, less (up d[m - 1]!) x = false)
  | 0, _ => by
    have : compactUpTo d 0 = [] := rfl
    rw [this]
    exact ⟨List.Pairwise.nil, by simp, by simp⟩
  | m + 1, hm => by
    obtain ⟨h1, h2, h3⟩ := compact_sorted d hs m (by omega)
    rw [compactUpTo_succ, List.map_append]
    have hsort : ∀ j, j < m → less (up d[m]!) (up d[j]!) = false := fun j hj => by rw [← lt2_eq]; exact hs j m (by omega) hj (by omega)
    cases hk : keeps d m with
    | true =>
      simp only [if_true, List.map_cons, List.map_nil]
      have hall : ∀ x ∈ (compactUpTo d m).map up, less x (up d[m]!) = true := fun x hx => by
        obtain ⟨j, hj, rfl⟩ := (h2 x).1 hx
        cases hq : less (up d[j]!) (up d[m]!) with
        | true => rfl
        | false =>
          exfalso
          have e := less_total hq (hsort j hj)
          have e1 : up d[m - 1]! = up d[m]! := by
            have a1 : less (up d[m]!) (up d[m - 1]!) = false := hsort (m - 1) (by omega)
            have a2 := h3 _ ((h2 _).2 ⟨j, hj, rfl⟩)
            rw [e] at a2
            exact less_total a2 a1
          have := up_inj e1
          simp [keeps] at hk
          rcases hk with hk | hk
          · omega
          · exact hk this.symm
      refine ⟨List.pairwise_append.2 ⟨h1, by simp, fun a ha b hb => ?_⟩, fun x => ?_, fun x hx => ?_⟩
      · simp at hb; subst hb; exact hall a ha
      · rw [List.mem_append, h2]
        constructor
        · rintro (⟨j, hj, rfl⟩ | hx)
          · exact ⟨j, by omega, rfl⟩
          · simp at hx; exact ⟨m, by omega, hx.symm⟩
        · rintro ⟨j, hj, rfl⟩
          by_cases e : j = m
          · right; rw [e]; simp
          · exact .inl ⟨j, by omega, rfl⟩
      · rw [Nat.add_sub_cancel]
        rcases List.mem_append.1 hx with hx | hx
        · exact less_asymm (hall x hx)
        · simp at hx; rw [hx]; exact less_irrefl _
    | false =>
      have hm0 : m ≠ 0 := fun e => by simp [keeps, e] at hk
      have he : d[m]! = d[m - 1]! := by
        simp [keeps, hm0] at hk; exact hk
      simp only [Bool.false_eq_true, if_false, List.map_nil, List.append_nil]
      refine ⟨h1, fun x => ?_, fun x hx => ?_⟩
      · rw [h2]
        constructor
        · rintro ⟨j, hj, rfl⟩; exact ⟨j, by omega, rfl⟩
        · rintro ⟨j, hj, rfl⟩
          by_cases e : j = m
          · exact ⟨m - 1, by omega, by rw [e, he]⟩
          · exact ⟨j, by omega, rfl⟩
      · rw [Nat.add_sub_cancel, he]; exact h3 x hx
/-- A row that was sorted by 'cf' and compacted is the sorted list. -/
theorem compact_is_sort (ds : List Dt) (d : Array (Int × Int)) (hp : PermIn 0 (ds.map pr).toArray.size (ds.map pr).toArray d) (hs : SortedIn lt2 0 (ds.map pr).toArray.size d) : (compactUpTo d d.size).map up = sort ds := by
  obtain ⟨hsz, _, hperm⟩ := hp
  rw [← hsz] at hs
  obtain ⟨h1, h2, _⟩ := compact_sorted d hs d.size (Nat.le_refl _)
  refine rise_ext h1 (sort_rise ds) (fun x => ?_)
  rw [h2, sort_mem]
  have e1 : d.extract 0 (ds.map pr).toArray.size = d := by rw [← hsz]; exact Array.extract_size
  rw [e1, Array.extract_size] at hperm
  have hm : ∀ p, p ∈ d.toList ↔ p ∈ ds.map pr := fun p => by have := hperm.mem_iff (a := p); simpa using this
  constructor
  · rintro ⟨j, hj, rfl⟩
    have : d[j]! ∈ d.toList := by rw [getElem!_pos d j hj]; simp
    rw [hm] at this
    obtain ⟨y, hy, e⟩ := List.mem_map.1 this
    rw [← e, up_pr]; exact hy
  · intro hx
    have : pr x ∈ d.toList := (hm _).2 (List.mem_map.2 ⟨x, hx, rfl⟩)
    obtain ⟨j, hj, e⟩ := List.getElem_of_mem this
    have hj' : j < d.size := by simpa using hj
    refine ⟨j, hj', ?_⟩
    rw [getElem!_pos d j hj']
    have e2 : d[j] = pr x := by simpa using e
    rw [e2, up_pr]
end DotMath

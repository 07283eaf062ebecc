/-
  Ranges as pairs: how they are compared by their beginnings, and what a sorted row is. Plain mathematics.
-/
import Derived.Test.YtnkjfenibgiaaaaSpanPut
import Derived.Sort.Statements
namespace SpanMath
open Go.Sort
set_option linter.unusedVariables false
set_option linter.unusedSimpArgs false

def pr (d : Rg) : Int × Int := (d.f, d.t)
def up (p : Int × Int) : Rg := ⟨p.1, p.2⟩
theorem up_pr (d : Rg) : up (pr d) = d := rfl
def sg (x y : Int) : Int := if x < y then -1 else if y < x then 1 else 0
def cf (x y : Int × Int) : Int := sg x.1 y.1
theorem sg_cases (x y : Int) : (x < y ∧ sg x y = -1) ∨ (y < x ∧ sg x y = 1) ∨ (x = y ∧ sg x y = 0) := by
  unfold sg
  by_cases h1 : x < y
  · left; rw [if_pos h1]; exact ⟨h1, rfl⟩
  · rw [if_neg h1]
    by_cases h2 : y < x
    · right; left; rw [if_pos h2]; exact ⟨h2, rfl⟩
    · right; right; rw [if_neg h2]; exact ⟨by omega, rfl⟩
def lt2 (x y : Int × Int) : Bool := decide (cf x y < 0)
theorem lt2_eq (x y : Int × Int) : lt2 x y = decide (x.1 < y.1) := by
  unfold lt2 cf
  have h := sg_cases x.1 y.1
  rw [decide_eq_decide]; omega
theorem swo : SWO lt2 where
  irrefl x := by rw [lt2_eq]; simp
  trans x y z h1 h2 := by simp only [lt2_eq, decide_eq_true_eq] at *; omega
  ntrans x y z h1 h2 := by simp only [lt2_eq, decide_eq_false_iff_not] at *; omega
theorem sorted_list (ds : List Rg) (d : Array (Int × Int)) (hp : PermIn 0 (ds.map pr).toArray.size (ds.map pr).toArray d) (hs : SortedIn lt2 0 (ds.map pr).toArray.size d) :
    (∀ r, r ∈ d.toList.map up ↔ r ∈ ds) ∧ (d.toList.map up).Pairwise (fun a b => a.f ≤ b.f) := by
  obtain ⟨hsz, _, hperm⟩ := hp
  rw [← hsz] at hs
  have e1 : d.extract 0 (ds.map pr).toArray.size = d := by rw [← hsz]; exact Array.extract_size
  rw [e1, Array.extract_size] at hperm
  have hm : ∀ p, p ∈ d.toList ↔ p ∈ ds.map pr := fun p => by have := hperm.mem_iff (a := p); simpa using this
  refine ⟨fun r => ?_, ?_⟩
  · constructor
    · intro h
      obtain ⟨p, hp, rfl⟩ := List.mem_map.1 h
      rw [hm] at hp
      obtain ⟨y, hy, rfl⟩ := List.mem_map.1 hp
      exact hy
    · intro h
      exact List.mem_map.2 ⟨pr r, (hm _).2 (List.mem_map.2 ⟨r, h, rfl⟩), rfl⟩
  · rw [List.pairwise_map]
    refine List.pairwise_iff_getElem.2 (fun i j hi hj hij => ?_)
    have hj' : j < d.size := by simpa using hj
    have hi' : i < d.size := by simpa using hi
    have h := hs i j (Nat.zero_le _) hij hj'
    rw [lt2_eq, decide_eq_false_iff_not, getElem!_pos d j hj', getElem!_pos d i hi'] at h
    simp only [Array.getElem_toList]
    unfold up
    simp only []
    omega
end SpanMath

/-
  Arrays that are laid one behind another into one value, or into the row of a slice.
-/
import Derived.Test.YtfgpoclflikhmaaDoorFnShaWrite
namespace Go.Proofs.YtfgpoclflikhmaaDoor
open Go.RowKit NumMath
set_option maxRecDepth 100000
set_option linter.unusedVariables false
set_option linter.unusedSimpArgs false

theorem foldl_set : ∀ (L pre mid post : List Value) (off k : Nat), pre.length = off + k → mid.length = L.length → (L.zipIdx k).foldl (fun (cs : Array Value) x => cs.setIfInBounds (off + x.2) x.1) (pre ++ mid ++ post).toArray = (pre ++ L ++ post).toArray
  | [], pre, mid, post, off, k, h1, h2 => by
    have : mid = [] := List.eq_nil_of_length_eq_zero (by simpa using h2)
    subst this; simp
  | v :: L, pre, [], post, off, k, h1, h2 => by simp at h2
  | v :: L, pre, m :: mid, post, off, k, h1, h2 => by
    rw [List.zipIdx_cons, List.foldl_cons]
    have e : (pre ++ m :: mid ++ post).toArray.setIfInBounds (off + k) v = ((pre ++ [v]) ++ mid ++ post).toArray := by
      apply Array.toList_inj.1
      rw [← h1]
      simp [List.set_append_right]
    simp only
    rw [e, foldl_set L (pre ++ [v]) mid post off (k + 1) (by simp [h1]; omega) (by simpa using h2)]
    simp
theorem fill_step (s i : Nat) (pre mid post L : List Value) (rest : List (Nat × Value)) (h1 : pre.length = i * s) (h2 : mid.length = s) (h3 : L.length = s) :
    Instr.fill (fun i => some (i * s, s)) (pre ++ mid ++ post).toArray ((i, .agg L.toArray) :: rest) = Instr.fill (fun i => some (i * s, s)) (pre ++ L ++ post).toArray rest := by
  rw [Instr.fill.eq_2]
  have hf := foldl_set L pre mid post (i * s) 0 (by simpa using h1) (by omega)
  have hc : ¬ ((decide ((Value.agg L.toArray).cells.size ≠ s) || decide (i * s + (Value.agg L.toArray).cells.size > (pre ++ mid ++ post).toArray.size)) = true) := by
    simp [Value.cells, h1, h2, h3]
  simp only
  rw [if_neg hc]
  congr 1
  rw [← hf]
  simp [Value.cells]
/-- Parts of s cells each, from part k on. -/
def partsFrom : Nat → List (List Value) → List (Nat × Value)
  | _, [] => []
  | k, L :: Ls => (k, .agg L.toArray) :: partsFrom (k + 1) Ls
theorem fill_all (s : Nat) : ∀ (Ls : List (List Value)) (k : Nat) (pre mid : List Value), pre.length = k * s → mid.length = Ls.length * s → (∀ L ∈ Ls, L.length = s) →
    Instr.fill (fun i => some (i * s, s)) (pre ++ mid).toArray (partsFrom k Ls) = some (pre ++ Ls.flatten).toArray
  | [], k, pre, mid, h1, h2, h3 => by
    have : mid = [] := List.eq_nil_of_length_eq_zero (by simpa using h2)
    subst this
    simp [partsFrom, Instr.fill.eq_1]
  | L :: Ls, k, pre, mid, h1, h2, h3 => by
    have hm : mid = mid.take s ++ mid.drop s := (List.take_append_drop s mid).symm
    have hl : L.length = s := h3 L (by simp)
    have hml : mid.length = s + Ls.length * s := by rw [h2, List.length_cons, Nat.succ_mul]; omega
    have := fill_step s k pre (mid.take s) (mid.drop s) L (partsFrom (k + 1) Ls) h1 (by rw [List.length_take]; omega) hl
    rw [List.append_assoc, ← hm] at this
    show Instr.fill _ _ ((k, .agg L.toArray) :: partsFrom (k + 1) Ls) = _
    rw [this, fill_all s Ls (k + 1) (pre ++ L) (mid.drop s) (by rw [List.length_append, h1, hl, Nat.succ_mul]) (by rw [List.length_drop]; omega) (fun L' hL' => h3 L' (by simp [hL']))]
    simp

theorem zero40 : (Tryd.prog.info? 40).map (fun i => (i.zero, i.size)) = some (some (.agg (u8v (List.replicate 64 0)).toArray), 64) := by kernel_rfl
theorem built40 (X Y : List Value) (hX : X.length = 32) (hY : Y.length = 32) : Tryd.prog.built 40 [(0, .agg X.toArray), (1, .agg Y.toArray)] = some (X ++ Y).toArray := by
  have hf := fill_all 32 [X, Y] 0 [] (u8v (List.replicate 64 0)) (by simp) (by rw [u8v_len]; simp) (by intro L hL; simp at hL; rcases hL with rfl | rfl <;> assumption)
  cases hq : Tryd.prog.info? 40 with
  | none => have := zero40; simp [hq] at this
  | some i =>
    have hz := zero40
    simp only [hq, Option.map_some, Option.some.injEq, Prod.mk.injEq] at hz
    cases hq2 : Tryd.prog.info? 26 with
    | none => have := size26; simp [hq2] at this
    | some j =>
      have hj : j.size = 32 := by have := size26; simpa [hq2] using this
      unfold Program.built
      simp only [hq, Tryd.underlying40, hz.1, hq2, hj]
      simpa [partsFrom, Value.cells] using hf
theorem u8v_rep (m : Nat) : u8v (List.replicate m 0) = List.replicate m (Value.int .u8 0) := by simp [u8v]
theorem rep_cells (m n : Nat) (V : Value) (hm : 0 < m) : Array.map (fun x => (List.replicate m V).toArray[x % m]!) (Array.range n) = (List.replicate n V).toArray := by
  apply Array.ext
  · simp
  · intro i h1 h2
    have : i % m < m := Nat.mod_lt _ hm
    simp [this]
/-- The row of a slice of such arrays. -/
theorem run_buildSlice41 (w : World) (Ls : List (List Value)) (n : Nat) (hn : Ls.length = n) (hp : 0 < n) (h100 : n ≤ 100) (h : ∀ L ∈ Ls, L.length = 64) :
    (Instr.buildSlice 41 n (partsFrom 0 Ls).toArray).run Tryd.prog w = .ok (.slice (some ⟨w.heap.size, 0, none⟩) n n) (w.alloc (.cells Ls.flatten.toArray 40)) := by
  have hz := zero_of_info zero40
  have hs : ∀ w, (sizeOf 40).run Tryd.prog w = .ok 64 w := Tryd.sizeOf40
  have hcells : (Array.map (fun x => (Value.agg (u8v (List.replicate 64 0)).toArray).cells[x % (Value.agg (u8v (List.replicate 64 0)).toArray).cells.size]!) (Array.range (n * 64))) = (u8v (List.replicate (n * 64) 0)).toArray := by
    have hsz : (Value.agg (u8v (List.replicate 64 0)).toArray).cells.size = 64 := by show (u8v (List.replicate 64 0)).toArray.size = 64; rw [List.size_toArray, u8v_len, List.length_replicate]
    rw [hsz]
    show Array.map (fun x => (u8v (List.replicate 64 0)).toArray[x % 64]!) _ = _
    rw [u8v_rep, u8v_rep]
    exact rep_cells 64 _ _ (by decide)
  have hf := fill_all 64 Ls 0 [] (u8v (List.replicate (n * 64) 0)) (by simp) (by rw [u8v_len]; simp [hn]) h
  rw [List.nil_append, List.nil_append] at hf
  unfold Instr.buildSlice
  simp only [Sem.run_bind, run_underlying Tryd.underlying41, Result.andThen_ok, hs]
  have hb : ¬ (n * 64 > 2 ^ 24) := by omega
  have hb0 : ¬ (n * 64 = 0) := by omega
  simp only [hb, hb0, if_false, Sem.run_bind, hz.1, Result.andThen_ok, Sem.run_pure]
  rw [hcells, hf]
  simp [newRow, Sem.run_bind]
end Go.Proofs.YtfgpoclflikhmaaDoor

/-
  slices.SortFunc of ranges by their beginnings.
-/
import Derived.Test.YtnkjfenibgiaaaaRngBlk
import Derived.Test.YtnkjfenibgiaaaaRgCmp
import Derived.Test.YtnkjfenibgiaaaaShelfSg
import Derived.Shelf.SlSortCmp.WholeK
import Derived.Sort.Grow
import Derived.Deep.Cut
namespace Go.Proofs.Ytnkjfenibgiaaaa
open Go.RowKit NumMath
open SpanMath (Rg)
open Go.Sort (Holds HoldsK flatK get_flatK size_flatK putRowK putCells putRow mapBlock grow heap_grow_old grow_grow alloc_eq_grow onCells SWO PermIn SortedIn)
set_option maxRecDepth 100000
set_option linter.unusedVariables false
set_option linter.unusedSimpArgs false

theorem isNaN_i64 (x : Int) (w : World) : Calls Try.prog 40 #[.int .i64 x] w fun e w' => e = .returned (.bool false) ∧ w' = w := by
  have h : (x != x) = false := by simp
  go_enter Try.func40, Try.ntmps40
  go_wp2
  go_ret
  exact ⟨rfl, rfl⟩
theorem compare_i64 (x y : Int) (w : World) : Calls Try.prog 31 #[.int .i64 x, .int .i64 y] w fun e w' => e = .returned (.int .i64 (SpanMath.sg x y)) ∧ w' = w := by
  have H : Hid (∀ x w, _) := fun x w => isNaN_i64 x w
  rcases SpanMath.sg_cases x y with ⟨h, e⟩ | ⟨h, e⟩ | ⟨h, e⟩
  all_goals
    rw [e]
    clear e
  · go_enter Try.func31, Try.ntmps31
    go_wp2_with (refine Calls.mono (H.out _ _) ?_; rintro e w' ⟨rfl, rfl⟩)
    go_ret
    exact ⟨rfl, rfl⟩
  · have h2 : y ≤ x := by omega
    go_enter Try.func31, Try.ntmps31
    go_wp2_with (refine Calls.mono (H.out _ _) ?_; rintro e w' ⟨rfl, rfl⟩)
    go_ret
    exact ⟨rfl, rfl⟩
  · subst h
    go_enter Try.func31, Try.ntmps31
    go_wp2_with (refine Calls.mono (H.out _ _) ?_; rintro e w' ⟨rfl, rfl⟩)
    go_ret
    exact ⟨rfl, rfl⟩
set_option maxHeartbeats 4000000 in
theorem joinCmp_grow (x y : Int × Int) (w : World) : Calls Try.prog 30 #[.agg #[.int .i64 x.1, .int .i64 x.2], .agg #[.int .i64 y.1, .int .i64 y.2]] w fun e w' => e = .returned (.int .i64 (SpanMath.cf x y)) ∧ ∃ q os, w' = grow (w.drewN q) os := by
  have HI : Hid (∀ x y w, _) := fun x y w => compare_i64 x y w
  obtain ⟨x1, x2⟩ := x
  obtain ⟨y1, y2⟩ := y
  dsimp only
  have HC : Hid (SpanMath.cf (x1, x2) (y1, y2) = SpanMath.sg x1 y1) := rfl
  generalize SpanMath.cf (x1, x2) (y1, y2) = r at *
  have HA2 : Hid (RgAt ((w.alloc (.cells #[.int .i64 x1, .int .i64 x2] 24)).alloc (.cells #[.int .i64 y1, .int .i64 y2] 24)) w.heap.size ⟨x1, x2⟩) := (RgAt.new w ⟨x1, x2⟩ rfl).alloc _
  have HB2 : Hid (RgAt ((w.alloc (.cells #[.int .i64 x1, .int .i64 x2] 24)).alloc (.cells #[.int .i64 y1, .int .i64 y2] 24)) (w.heap.size + 1) ⟨y1, y2⟩) := RgAt.new _ ⟨y1, y2⟩ (by simp)
  have HG : Hid ((w.alloc (.cells #[.int .i64 x1, .int .i64 x2] 24)).alloc (.cells #[.int .i64 y1, .int .i64 y2] 24) = grow (w.drewN 0) #[.cells #[.int .i64 x1, .int .i64 x2] 24 (0, 0), .cells #[.int .i64 y1, .int .i64 y2] 24 (0, 0)]) := by
    show _ = _; rw [alloc_eq_grow, alloc_eq_grow, grow_grow]; rfl
  go_enter Try.func30, Try.ntmps30
  go_upto_region 1 with (fail)
  generalize (w.alloc (.cells #[.int .i64 x1, .int .i64 x2] 24)).alloc (.cells #[.int .i64 y1, .int .i64 y2] 24) = w2 at *
  obtain ⟨p0, p1⟩ := HA2.out.cells
  obtain ⟨q0, q1⟩ := HB2.out.cells
  dsimp only at p0 p1 q0 q1
  go_wp2_with fail
  refine Calls.mono (HI.out _ _ _) ?_
  rintro e w1 ⟨rfl, hw⟩
  rw [hw]
  clear hw
  go_wp2
  go_ret
  exact ⟨by rw [HC.out]; rfl, 0, _, HG.out⟩

def enc2 (p : Int × Int) : List Value := [.int .i64 p.1, .int .i64 p.2]
theorem dsizeG (d : Array (Int × Int)) : (d.toList.map SpanMath.up).length = d.size := by simp
theorem dgetG (d : Array (Int × Int)) (i : Nat) (h : i < d.size) : (d.toList.map SpanMath.up)[i]?.getD SpanMath.zero = SpanMath.up d[i]! := by
  simp [h, getElem!_pos]
theorem flat_enc (d : Array (Int × Int)) : (flatK enc2 2 d).toList = flatG (d.toList.map SpanMath.up) := by
  apply List.ext_getElem
  · rw [flatG_len]; simp
  · intro j h1 h2
    have hj : j < d.size * 2 := by simpa using h1
    have hd : j / 2 < d.size := by omega
    have e1 : (flatK enc2 2 d)[j]! = (enc2 d[j / 2]!)[j % 2]! := get_flatK enc2 2 d j hj
    have e2 := flatG_at (d.toList.map SpanMath.up) (j / 2) (j % 2) (by rw [dsizeG]; exact hd) (by omega)
    rw [dgetG d _ hd, show j / 2 * 2 + j % 2 = j by omega, List.getElem?_eq_getElem h2] at e2
    have hs : j < (flatK enc2 2 d).size := by simpa using hj
    rw [getElem!_pos _ j hs] at e1
    rw [Array.getElem_toList, e1]
    have e3 : (enc2 d[j / 2]!)[j % 2]? = some (flatG (d.toList.map SpanMath.up))[j] := e2.symm
    rw [List.getElem!_eq_getElem?_getD, e3]; rfl
theorem holds_blkG {w : World} {g e : Nat} {d : Array (Int × Int)} (h : Arr w g e (flatG (d.toList.map SpanMath.up))) : HoldsK enc2 2 w g 0 d := by
  intro j hj
  refine ⟨?_, Arr.frozen h _⟩
  rw [Nat.zero_add, Arr.cell h j, ← flat_enc]
  rw [getElem!_pos _ j hj]
  simp
theorem put_toListG (F : Array Value) (l : List Value) (h : l.length = F.size) : putCells id 0 F l.toArray = F.toList.toArray := by
  apply Array.ext
  · simp [putCells, h]
  · intro i h1 h2
    simp only [putCells, Array.getElem_mapIdx, Nat.zero_le, true_and, Nat.zero_add, Nat.sub_zero, id]
    have hi : i < F.size := by simpa using h2
    rw [if_pos hi, getElem!_pos F i hi]
theorem arr_sortedG {w : World} {g e n : Nat} {d d' : Array (Int × Int)} {os : Array Obj} (h : Arr w g e (flatG (d.toList.map SpanMath.up))) (hs : d'.size = d.size) : Arr (sortWorldK enc2 2 w g 0 n d' os) g e (flatG (d'.toList.map SpanMath.up)) := by
  have hg := h.lt
  unfold Arr sortWorldK
  rw [heap_grow_old _ _ (by simpa [putRowK, putRow, mapBlock, Go.Sort.ahead] using hg)]
  have h' : w.heap[g]? = some (.cells (flatG (d.toList.map SpanMath.up)).toArray e (0, 0)) := h
  simp only [putRowK, putRow, mapBlock, Go.Sort.ahead, Array.getElem?_modify, if_true, h', Option.map_some, onCells]
  rw [put_toListG _ _ (by rw [flatG_len, dsizeG, size_flatK, hs]), flat_enc]
theorem grown_sortedG {w : World} {g n : Nat} {d' : Array (Int × Int)} {os : Array Obj} : w.grownBy (sortWorldK enc2 2 w g 0 n d' os) (some g) := by
  refine ⟨rfl, rfl, rfl, by simp [sortWorldK, grow, putRowK, putRow, mapBlock, Go.Sort.ahead], fun k hk hne => ?_⟩
  unfold sortWorldK
  rw [heap_grow_old _ _ (by simpa [putRowK, putRow, mapBlock, Go.Sort.ahead] using hk)]
  have : g ≠ k := fun e => hne (by rw [e])
  simp [putRowK, putRow, mapBlock, Go.Sort.ahead, Array.getElem?_modify, this]
/-- slices.SortFunc over a block that is known whole: the same ranges, in the order of their beginnings. -/
theorem sortRgs (g base : Nat) (ds : List Rg) (w : World) (hbase : base ≤ g) (hA : Arr w g 24 (flatG ds)) (hlim : ds.length ≤ 4000000000000) :
    Calls Try.prog 29 #[.slice (some ⟨g, 0, none⟩) ds.length ds.length, .func (.func 30) #[] #[]] w fun e w' => e = .returned (.tuple #[]) ∧ ∃ s : List Rg, (∀ r, r ∈ s ↔ r ∈ ds) ∧ s.Pairwise (fun a b => a.f ≤ b.f) ∧ s.length = ds.length ∧ Arr w' g 24 (flatG s) ∧ Below base w w' := by
  have eg : ∀ args w, (callFunc 30 args).run Try.prog w = .ok (.enter 30 args) w := enters_of Try.func30 (by kernel_rfl) rfl
  obtain ⟨d, hd⟩ : ∃ d : Array (Int × Int), d = (ds.map SpanMath.pr).toArray := ⟨_, rfl⟩
  have hds : d.toList.map SpanMath.up = ds := by rw [hd]; simp [List.map_map, Function.comp_def, SpanMath.up_pr]
  have hsz : d.size = ds.length := by rw [hd]; simp
  have hgl := hA.lt
  rw [← hds] at hA
  have hcon := AnyQ.slices_SortFunc sortRg 2 Try.isAgg24 Try.sizeOf24 enc2 (fun _ => rfl) (fun x v hv => by simp [enc2] at hv; rcases hv with rfl | rfl <;> rfl) SpanMath.cf SpanMath.swo 30 #[] g 0 ds.length d w eg (fun _ _ _ _ x y => joinCmp_grow x y _) (holds_blkG hA) hgl (by omega)
  rw [hsz] at hcon
  refine hcon.mono ?_
  rintro e w' ⟨rfl, d', n, os, hp, hs, rfl⟩
  have hps : d'.size = d.size := hp.1
  have hl := SpanMath.sorted_list ds d' (by rw [← hd, hsz]; exact hp) (by rw [← hd, hsz]; exact hs)
  exact ⟨rfl, _, hl.1, hl.2, by rw [dsizeG, hps, hsz], arr_sortedG hA hps, (Below.refl _ w).grown grown_sortedG (by omega) (fun k hk => by injection hk with hk; omega)⟩
end Go.Proofs.Ytnkjfenibgiaaaa

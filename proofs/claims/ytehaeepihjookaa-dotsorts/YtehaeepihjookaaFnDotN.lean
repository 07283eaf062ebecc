/-
  Walk of dot.Sort.
-/
import Derived.Test.YtehaeepihjookaaFnDotK
import Derived.Test.YtehaeepihjookaaFnDotI
import Derived.Test.YtehaeepihjookaaShelfSo
import Derived.Shelf.SlSortCmp.NoneTotal
namespace Go.Proofs.Ytehaeepihjookaa
open Go.RowKit NumMath
open DotMath (Dt)
open Go.Sort (Holds HoldsK flatK get_flatK size_flatK putRowK putCells putRow mapBlock grow heap_grow_old onCells SWO PermIn SortedIn)
open Go.Lib (compactUpTo)
set_option maxRecDepth 100000
set_option linter.unusedVariables false
set_option linter.unusedSimpArgs false

def enc2 (p : Int × Int) : List Value := [.int .i64 p.1, .int .i64 p.2]
theorem flat_enc (d : Array (Int × Int)) : (flatK enc2 2 d).toList = flatD (d.toList.map DotMath.up) := by
  apply List.ext_getElem
  · rw [flatD_len]; simp
  · intro j h1 h2
    have hj : j < d.size * 2 := by simpa using h1
    have hd : j / 2 < d.size := by omega
    have e1 : (flatK enc2 2 d)[j]! = (enc2 d[j / 2]!)[j % 2]! := get_flatK enc2 2 d j hj
    have e2 := flatD_at (d.toList.map DotMath.up) (j / 2) (j % 2) (by rw [dsize]; exact hd) (by omega)
    rw [dget d _ hd, show j / 2 * 2 + j % 2 = j by omega, List.getElem?_eq_getElem h2] at e2
    have hs : j < (flatK enc2 2 d).size := by simpa using hj
    rw [getElem!_pos _ j hs] at e1
    rw [Array.getElem_toList, e1]
    have e3 : (enc2 d[j / 2]!)[j % 2]? = some (flatD (d.toList.map DotMath.up))[j] := e2.symm
    rw [List.getElem!_eq_getElem?_getD, e3]; rfl
theorem holds_blk {w : World} {g e : Nat} {d : Array (Int × Int)} {rest : List Value} (h : Arr w g e (flatD (d.toList.map DotMath.up) ++ rest)) : HoldsK enc2 2 w g 0 d := by
  intro j hj
  refine ⟨?_, Arr.frozen h _⟩
  rw [Nat.zero_add, Arr.cell h j, ← flat_enc, List.getElem?_append_left (by simpa using hj)]
  rw [getElem!_pos _ j hj]
  simp
theorem put_toList (F : Array Value) (l rest : List Value) (h : l.length = F.size) : putCells id 0 F (l ++ rest).toArray = (F.toList ++ rest).toArray := by
  apply Array.ext
  · simp [putCells, h]
  · intro i h1 h2
    simp only [putCells, Array.getElem_mapIdx, Nat.zero_le, true_and, Nat.zero_add, Nat.sub_zero, id]
    by_cases hi : i < F.size
    · rw [if_pos hi, getElem!_pos F i hi]
      simp [hi]
    · rw [if_neg hi]
      simp only [List.getElem_toArray]
      rw [List.getElem_append_right (by omega), List.getElem_append_right (by simp; omega)]
      simp [h]
theorem arr_sorted {w : World} {g e n : Nat} {d d' : Array (Int × Int)} {rest : List Value} {os : Array Obj} (h : Arr w g e (flatD (d.toList.map DotMath.up) ++ rest)) (hs : d'.size = d.size) : Arr (sortWorldK enc2 2 w g 0 n d' os) g e (flatD (d'.toList.map DotMath.up) ++ rest) := by
  have hg := h.lt
  unfold Arr sortWorldK
  rw [heap_grow_old _ _ (by simpa [putRowK, putRow, mapBlock, Go.Sort.ahead] using hg)]
  have h' : w.heap[g]? = some (.cells (flatD (d.toList.map DotMath.up) ++ rest).toArray e (0, 0)) := h
  simp only [putRowK, putRow, mapBlock, Go.Sort.ahead, Array.getElem?_modify, if_true, h', Option.map_some, onCells]
  rw [put_toList _ _ _ (by rw [flatD_len, dsize, size_flatK, hs]), flat_enc]
theorem grown_sorted {w : World} {g n : Nat} {d' : Array (Int × Int)} {os : Array Obj} : w.grownBy (sortWorldK enc2 2 w g 0 n d' os) (some g) := by
  refine ⟨rfl, rfl, rfl, by simp [sortWorldK, grow, putRowK, putRow, mapBlock, Go.Sort.ahead], fun k hk hne => ?_⟩
  unfold sortWorldK
  rw [heap_grow_old _ _ (by simpa [putRowK, putRow, mapBlock, Go.Sort.ahead] using hk)]
  have : g ≠ k := fun e => hne (by rw [e])
  simp [putRowK, putRow, mapBlock, Go.Sort.ahead, Array.getElem?_modify, this]

theorem compact_nil (w : World) : Calls Try.prog 29 #[.slice none 0 0] w fun e w' => e = .returned (.slice none 0 0) ∧ w' = w := by
  go_enter Try.func29, Try.ntmps29
  go_wp2
  go_ret
  exact ⟨rfl, rfl⟩
/-- slices.SortFunc over a row of the call's own: the same slice, its dots sorted. -/
theorem sortFunc_own {w : World} {base : Nat} {v : Value} {ds : List Dt} (h : DOwn w base v ds) (hlim : ds.length ≤ 4000000000000) (hb : base ≤ w.heap.size) :
    Calls Try.prog 28 #[v, .func (.func 26) #[] #[]] w fun e w' => e = .returned (.tuple #[]) ∧ Below base w w' ∧
      ((v = .slice none 0 0 ∧ ds = []) ∨ ∃ (g cap : Nat) (rest : List Value) (d : Array (Int × Int)), v = .slice (some ⟨g, 0, none⟩) d.size cap ∧ base ≤ g ∧ Arr w' g 23 (flatD (d.toList.map DotMath.up) ++ rest) ∧ (flatD (d.toList.map DotMath.up) ++ rest).length = cap * 2 ∧ d.size ≤ cap ∧ cap ≤ maxLen ∧ (compactUpTo d d.size).map DotMath.up = DotMath.sort ds) := by
  rcases own_blk h with ⟨rfl, rfl⟩ | ⟨g, cap, rest, rfl, hg, hc, hm, hA, hl⟩
  · refine (AnyF.slices_SortFunc_none { sortDot with } none 0 _ w).mono ?_
    rintro e w' ⟨rfl, rfl⟩
    exact ⟨rfl, Below.refl _ _, .inl ⟨rfl, rfl⟩⟩
  · have eg : ∀ args w, (callFunc 26 args).run Try.prog w = .ok (.enter 26 args) w := enters_of Try.func26 (by kernel_rfl) rfl
    obtain ⟨d, hd⟩ : ∃ d : Array (Int × Int), d = (ds.map DotMath.pr).toArray := ⟨_, rfl⟩
    have hds : d.toList.map DotMath.up = ds := by rw [hd]; simp [List.map_map, Function.comp_def, DotMath.up_pr]
    have hsz : d.size = ds.length := by rw [hd]; simp
    rw [← hds] at hA hl
    have hcon := AnyQ.slices_SortFunc sortDot 2 Try.isAgg23 Try.sizeOf23 enc2 (fun _ => rfl) (fun x v hv => by simp [enc2] at hv; rcases hv with rfl | rfl <;> rfl) DotMath.cf DotMath.swo 26 #[] g 0 cap d w eg (fun _ _ _ _ x y => dotCompare_grow x y _) (holds_blk hA) hA.lt (by omega)
    rw [hsz] at hcon
    refine hcon.mono ?_
    rintro e w' ⟨rfl, d', n, os, hp, hs, rfl⟩
    have hps : d'.size = d.size := hp.1
    refine ⟨rfl, (Below.refl _ w).grown grown_sorted hb (fun k hk => by injection hk with hk; omega), .inr ⟨g, cap, rest, d', by rw [hps, hsz], hg, arr_sorted hA hps, ?_, by omega, hm, ?_⟩⟩
    · rw [List.length_append, flatD_len, dsize] at hl ⊢
      rw [hps]; exact hl
    · refine DotMath.compact_is_sort ds d' ?_ ?_
      · rw [← hd, hsz]; exact hp
      · rw [← hd, hsz]; exact hs

set_option maxHeartbeats 4000000 in
theorem dotSort_own (a : Option Addr) (ds : List Dt) (cap : Nat) (w : World) (hr : DRow w a ds) (hc : ds.length ≤ cap) (hm : cap ≤ maxLen) (hlim : ds.length ≤ 4000000000000) :
    Calls Try.prog 13 #[.slice a ds.length cap] w fun e w' => ∃ v, e = .returned v ∧ DOwn w' w.heap.size v (DotMath.sort ds) ∧ Below w.heap.size w w' := by
  have HC : Hid _ := clone_any a ds cap w hr hc hm hlim
  have HSF : Hid (∀ v w', DOwn w' w.heap.size v ds → w.heap.size ≤ w'.heap.size → _) := fun v w' hO hb => sortFunc_own (base := w.heap.size) (v := v) (w := w') hO hlim hb
  generalize ds.length = n at *
  clear hr hc hm hlim
  go_enter Try.func13, Try.ntmps13
  go_wp2_with fail
  refine Calls.mono HC.out ?_
  rintro e w1 ⟨v, rfl, hown, hb1⟩
  have HS1 : Hid _ := HSF.out v w1 hown hb1.size
  have HB : Hid _ := hb1
  clear hown hb1 HC HSF
  go_wp2_with fail
  refine Calls.mono HS1.out ?_
  rintro e w2 ⟨rfl, hb2, h2⟩
  have HB2 : Hid (Below w.heap.size w w2) := HB.out.trans hb2
  clear hb2 HB HS1
  rcases h2 with ⟨rfl, hds⟩ | ⟨g, cap2, rest, d, rfl, hg, hA, hl, hc2, hm2, he⟩
  · have HD : Hid (ds = []) := hds
    clear hds
    go_wp2_with fail
    refine Calls.mono (compact_nil _) ?_
    rintro e w3 ⟨rfl, rfl⟩
    go_wp2
    go_ret
    exact ⟨_, rfl, by rw [HD.out]; exact DOwn.nil _ _, HB2.out⟩
  · have HC2 : Hid _ := compact_any d g cap2 rest w.heap.size w2 hg hA hl hc2 hm2
    have HE : Hid (kept d d.size = DotMath.sort ds) := he
    clear hA hl hc2 hm2 hg he
    generalize d.size = m at *
    go_wp2_with fail
    refine Calls.mono HC2.out ?_
    rintro e w3 ⟨v3, rfl, hown3, hb3⟩
    have HO3 : Hid _ := hown3
    have HB3 : Hid (Below w.heap.size w w3) := HB2.out.trans hb3
    clear hown3 hb3
    go_wp2
    go_ret
    exact ⟨_, rfl, by rw [← HE.out]; exact HO3.out, HB3.out⟩
end Go.Proofs.Ytehaeepihjookaa

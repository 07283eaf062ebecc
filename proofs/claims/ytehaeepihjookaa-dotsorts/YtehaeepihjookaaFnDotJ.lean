/-
  Walks of slices.Clone, slices.Compact of dots.
-/
import Derived.Test.YtehaeepihjookaaDotStep
import Derived.Test.YtehaeepihjookaaDotCmp
import Derived.Test.YtehaeepihjookaaFnDotG
import Derived.Test.YtehaeepihjookaaGrowKit
import Derived.Lib.SliceRun
import Derived.Laws.CopyRow
import Derived.Deep.Cut
namespace Go.Proofs.Ytehaeepihjookaa
open Go.RowKit NumMath
open DotMath (Dt)
open Go.Lib (compactUpTo compactUpTo_succ keeps keeps_pos keeps_neg keeps_lt_one compactUpTo_all range_map_get)
set_option maxRecDepth 100000
set_option linter.unusedVariables false
set_option linter.unusedSimpArgs false

theorem own_made (w : World) : DOwn (w.alloc (.cells #[] 23)) w.heap.size (.slice (some ⟨w.heap.size, 0, none⟩) 0 0) [] :=
  ⟨⟨rfl, .inr ⟨w.heap.size, 0, #[], rfl, Nat.le_refl _, Arr.new w _ [] rfl, by simp, by decide, rfl, rfl⟩⟩⟩
set_option maxHeartbeats 4000000 in
theorem clone_any (a : Option Addr) (ds : List Dt) (cap : Nat) (w : World) (hr : DRow w a ds) (hc : ds.length ≤ cap) (hm : cap ≤ maxLen) (hlim : ds.length ≤ 4000000000000) :
    Calls Try.prog 27 #[.slice a ds.length cap] w fun e w' => ∃ v, e = .returned v ∧ DOwn w' w.heap.size v ds ∧ Below w.heap.size w w' := by
  have q22 : ∀ (w : World) (a : Option Addr) (n c n' c' : Nat), (binOp .eql 25 (.slice a n c) (.slice none n' c')).run Try.prog w = .ok (.bool a.isNone) w := fun w a n c n' c' => Lib.run_eql_slice_nil w _ _ a n c n' c' Try.underlying25
  cases a with
  | none =>
    obtain rfl : ds = [] := by
      rcases hr with h | ⟨b, off, ha, _⟩
      · exact h
      · cases ha
    clear hr hc hm hlim
    go_enter Try.func27, Try.ntmps27
    go_wp2
    go_ret
    exact ⟨_, rfl, DOwn.nil _ _, Below.refl _ _⟩
  | some ad =>
    have HO : Hid (DOwn (w.alloc (.cells #[] 23)) w.heap.size (.slice (some ⟨w.heap.size, 0, none⟩) 0 0) []) := own_made w
    have HB : Hid (Below w.heap.size w (w.alloc (.cells #[] 23))) := (Below.refl _ _).alloc (Nat.le_refl _) _
    have HR : Hid (DRow (w.alloc (.cells #[] 23)) (some ad) ds) := hr.later HB.out
    obtain ⟨n, hn⟩ : ∃ n, n = ds.length := ⟨_, rfl⟩
    have HN : Hid (n = ds.length) := hn
    rw [← hn] at hc hlim ⊢
    clear hn hr
    go_enter Try.func27, Try.ntmps27
    go_wp2_with (at_builtin; refine wpList_app_dots rfl _ _ rfl w.heap.size _ [] rfl HO.out (some ad) cap ds n HN.out rfl HR.out (by intro h; cases h) hc (by rw [← HN.out]; simp; omega) HB.out.size ?_; intro v2 w2 hown2 hgrow2)
    have HB2 : Hid (Below w.heap.size w w2) := HB.out.grown hgrow2 HB.out.size (fun j hj => (HO.out.lt j hj).1)
    have HO2 : Hid (DOwn w2 w.heap.size v2 ds) := hown2
    clear hown2 hgrow2 HO HR HB
    go_wp2
    go_ret
    exact ⟨_, rfl, HO2.out, HB2.out⟩

/-- The block behind a slice of the call's own. -/
theorem own_blk {w : World} {base : Nat} {v : Value} {ds : List Dt} (h : DOwn w base v ds) : (v = .slice none 0 0 ∧ ds = []) ∨
    ∃ g cap rest, v = .slice (some ⟨g, 0, none⟩) ds.length cap ∧ base ≤ g ∧ ds.length ≤ cap ∧ cap ≤ maxLen ∧ Arr w g 23 (flatD ds ++ rest) ∧ (flatD ds ++ rest).length = cap * 2 := by
  rcases h.own.2 with ⟨h2, h3⟩ | ⟨g, cap, cur, hv, hg, hcur, h5, h6, h7, h8⟩
  · exact .inl ⟨h2, List.eq_nil_of_length_eq_zero h3⟩
  · have e : flatD ds ++ cur.toList.drop (ds.length * 2) = cur.toList := by rw [← h8]; exact List.take_append_drop _ _
    refine .inr ⟨g, cap, cur.toList.drop (ds.length * 2), hv, hg, h5, h6, ?_, ?_⟩
    · rw [e]; exact hcur
    · rw [e]; simpa using h7
theorem blk_own {w : World} {base g cap : Nat} {ds : List Dt} {rest : List Value} (hg : base ≤ g) (hA : Arr w g 23 (flatD ds ++ rest)) (hl : (flatD ds ++ rest).length = cap * 2) (hc : ds.length ≤ cap) (hm : cap ≤ maxLen) :
    DOwn w base (.slice (some ⟨g, 0, none⟩) ds.length cap) ds := by
  refine ⟨⟨flatD_len ds, .inr ⟨g, cap, (flatD ds ++ rest).toArray, rfl, hg, hA, hc, hm, by simpa using hl, ?_⟩⟩⟩
  rw [← flatD_len ds]; simp
theorem drow_blk {w : World} {g : Nat} {ds : List Dt} {rest : List Value} (hA : Arr w g 23 (flatD ds ++ rest)) : DRow w (some ⟨g, 0, none⟩) ds :=
  drow_of_cells (fun j u hu => by
    have hj := (List.getElem?_eq_some_iff.1 hu).1
    rw [Nat.zero_add, Arr.cell hA j, List.getElem?_append_left hj]; exact hu)
theorem flat_set (A : List Dt) (x u : Dt) (B : List Dt) (rest : List Value) :
    (flatD (A ++ x :: B) ++ rest).take (A.length * 2) ++ dtL u ++ (flatD (A ++ x :: B) ++ rest).drop (A.length * 2 + (dtL u).length) = flatD (A ++ u :: B) ++ rest := by
  have e1 : flatD (A ++ x :: B) ++ rest = flatD A ++ (dtL x ++ (flatD B ++ rest)) := by rw [flatD_append, flatD_cons]; simp
  have e2 : flatD (A ++ u :: B) ++ rest = flatD A ++ (dtL u ++ (flatD B ++ rest)) := by rw [flatD_append, flatD_cons]; simp
  rw [e1, e2, ← flatD_len A, List.take_left, ← List.drop_drop, List.drop_left]
  simp [dtL]
theorem zeros_one (n : Nat) : ∀ v ∈ (Builtin.zeroCells (dtV DotMath.zero).cells n).toList, v.oneCell' = true := by
  intro v hv
  simp only [Builtin.zeroCells, Array.toList_map, List.mem_map] at hv
  obtain ⟨i, _, rfl⟩ := hv
  have h : i % 2 < 2 := Nat.mod_lt _ (by decide)
  show ((#[Value.int .i64 0, Value.int .i64 0] : Array Value)[i % 2]!).oneCell' = true
  rcases (show i % 2 = 0 ∨ i % 2 = 1 by omega) with e | e <;> rw [e] <;> rfl
theorem run_clear_dots (w : World) (g o n c : Nat) (l : List Value) (hA : Arr w g 23 l) (hn : 0 < n) (hl : o + n * 2 ≤ l.length) :
    ∃ l' : List Value, (∀ ty, (Builtin.clear_ #[25] ty #[.slice (some ⟨g, o, none⟩) n c]).run Try.prog w = .ok (.tuple #[]) (w.setRow g l'.toArray)) ∧ l'.length = l.length ∧ l'.take o = l.take o := by
  have hzl : (Builtin.zeroCells (dtV DotMath.zero).cells n).toList.length = n * 2 := by simp [Builtin.zeroCells, dtV, Value.cells]
  have hz : ∀ w, (zeroValue 23).run Try.prog w = .ok (dtV DotMath.zero) w := fun w => by
    have h := zeroDt
    cases hq : Try.prog.info? 23 with
    | none => simp [hq] at h
    | some x =>
      have hx : x.zero = some (dtV DotMath.zero) := by
        simp [hq] at h; exact h.1
      simp [zeroValue, typeInfo, hq, hx]
  have hst := run_storeCells_at (P := Try.prog) g o 23 (Builtin.zeroCells (dtV DotMath.zero).cells n).toList 0 l.toArray w hA (by rw [hzl]; simpa using hl) (zeros_one n)
  refine ⟨l.take o ++ (Builtin.zeroCells (dtV DotMath.zero).cells n).toList ++ l.drop (o + n * 2), ?_, ?_, ?_⟩
  · intro ty
    obtain ⟨m, rfl⟩ : ∃ m, n = m + 1 := ⟨n - 1, by omega⟩
    rw [hzl] at hst
    simp only [Nat.add_zero] at hst
    simp [Builtin.clear_, run_underlying Try.underlying25, hz, hst]
  · simp only [List.length_append, List.length_take, List.length_drop, hzl]; omega
  · rw [List.append_assoc, List.take_append_of_le_length (by simp; omega), List.take_take, Nat.min_self]
end Go.Proofs.Ytehaeepihjookaa

/-
  Walks of slices.Clone, slices.Sort of int64, and of span.Of.
-/
import Derived.Test.YtnkjfenibgiaaaaFnRgQ
import Derived.Test.YtnkjfenibgiaaaaI64Kit
import Derived.Test.YtnkjfenibgiaaaaShelfSi
import Derived.Shelf.SortM.Plain
import Derived.Shelf.SortM.SortNone
import Derived.Lib.SliceRun
import Derived.Deep.Cut
namespace Go.Proofs.Ytnkjfenibgiaaaa
open Go.RowKit NumMath
open SpanMath (Rg)
open Go.Sort (Holds putCells putRow mapBlock grow heap_grow_old onCells)
set_option maxRecDepth 100000
set_option linter.unusedVariables false
set_option linter.unusedSimpArgs false

theorem own_madeI (w : World) : NOwn (w.alloc (.cells #[] 2)) w.heap.size (.slice (some ⟨w.heap.size, 0, none⟩) 0 0) [] :=
  ⟨⟨rfl, .inr ⟨w.heap.size, 0, #[], rfl, Nat.le_refl _, Arr.new w _ [] rfl, by simp, by decide, rfl, rfl⟩⟩⟩
set_option maxHeartbeats 4000000 in
theorem clone64_any (a : Option Addr) (zs : List Int) (cap : Nat) (w : World) (hr : Row .i64 w a zs) (hc : zs.length ≤ cap) (hm : cap ≤ maxLen) (hlim : zs.length ≤ 4000000000000) :
    Calls Try.prog 35 #[.slice a zs.length cap] w fun e w' => ∃ v, e = .returned v ∧ NOwn w' w.heap.size v zs ∧ Below w.heap.size w w' := by
  have q22 : ∀ (w : World) (a : Option Addr) (n c n' c' : Nat), (binOp .eql 35 (.slice a n c) (.slice none n' c')).run Try.prog w = .ok (.bool a.isNone) w := fun w a n c n' c' => Lib.run_eql_slice_nil w _ _ a n c n' c' Try.underlying35
  cases a with
  | none =>
    obtain rfl : zs = [] := by
      rcases hr with h | ⟨b, off, ha, _⟩
      · exact h
      · cases ha
    clear hr hc hm hlim
    go_enter Try.func35, Try.ntmps35
    go_wp2
    go_ret
    exact ⟨_, rfl, NOwn.nil _ _, Below.refl _ _⟩
  | some ad =>
    have HO : Hid (NOwn (w.alloc (.cells #[] 2)) w.heap.size (.slice (some ⟨w.heap.size, 0, none⟩) 0 0) []) := own_madeI w
    have HB : Hid (Below w.heap.size w (w.alloc (.cells #[] 2))) := (Below.refl _ _).alloc (Nat.le_refl _) _
    have HR : Hid (Row .i64 (w.alloc (.cells #[] 2)) (some ad) zs) := hr.later HB.out
    obtain ⟨n, hn⟩ : ∃ n, n = zs.length := ⟨_, rfl⟩
    have HN : Hid (n = zs.length) := hn
    rw [← hn] at hc hlim ⊢
    clear hn hr
    go_enter Try.func35, Try.ntmps35
    go_wp2_with (at_builtin; refine wpList_app_i64 rfl _ _ rfl w.heap.size _ [] rfl HO.out (some ad) cap zs n HN.out rfl HR.out (by intro h; cases h) hc (by rw [← HN.out]; simp; omega) HB.out.size ?_; intro v2 w2 hown2 hgrow2)
    have HB2 : Hid (Below w.heap.size w w2) := HB.out.grown hgrow2 HB.out.size (fun j hj => (HO.out.lt j hj).1)
    have HO2 : Hid (NOwn w2 w.heap.size v2 zs) := hown2
    clear hown2 hgrow2 HO HR HB
    go_wp2
    go_ret
    exact ⟨_, rfl, HO2.out, HB2.out⟩
theorem put_toListI (s l : List Int) (rest : List Value) (h : l.length = s.length) : putCells (Value.int .i64) 0 s.toArray (l.map (Value.int .i64) ++ rest).toArray = (s.map (Value.int .i64) ++ rest).toArray := by
  apply Array.ext
  · simp [putCells, h]
  · intro i h1 h2
    simp only [putCells, Array.getElem_mapIdx, Nat.zero_le, true_and, Nat.zero_add, Nat.sub_zero]
    by_cases hi : i < s.length
    · rw [if_pos (by simpa using hi), getElem!_pos _ i (by simpa using hi)]
      simp [hi]
    · rw [if_neg (by simpa using hi)]
      simp only [List.getElem_toArray]
      rw [List.getElem_append_right (by simp; omega), List.getElem_append_right (by simp; omega)]
      simp [h]
/-- slices.Sort over a row of the call's own: the same slice, its numbers sorted. -/
theorem sort64_own {w : World} {base : Nat} {v : Value} {zs : List Int} (h : NOwn w base v zs) (hlim : zs.length ≤ 4000000000000) (hb : base ≤ w.heap.size) :
    Calls Try.prog 36 #[v] w fun e w' => e = .returned (.tuple #[]) ∧ ∃ s : List Int, (∀ n, n ∈ s ↔ n ∈ zs) ∧ s.Pairwise (· ≤ ·) ∧ s.length = zs.length ∧ NOwn w' base v s ∧ Below base w w' := by
  rcases h.own.2 with ⟨h2, h3⟩ | ⟨g, cap, cur, hv, hg, hcur, h5, h6, h7, h8⟩
  · subst h2
    obtain rfl : zs = [] := List.eq_nil_of_length_eq_zero h3
    refine (AnyM.slices_Sort_int_none sort64 none 0 w).mono ?_
    rintro e w' ⟨rfl, rfl⟩
    exact ⟨rfl, [], by simp, List.Pairwise.nil, rfl, h, Below.refl _ _⟩
  · subst hv
    have e : zs.map (Value.int .i64) ++ cur.toList.drop (zs.length * 1) = cur.toList := by rw [← h8]; exact List.take_append_drop _ _
    have hgl : g < w.heap.size := (Array.getElem?_eq_some_iff.1 hcur).1
    have hH : Holds (Value.int .i64) w g 0 zs.toArray := fun j hj => by
      have hj' : j < zs.length := by simpa using hj
      refine ⟨?_, frozen_of_row w g _ _ 2 hcur⟩
      have := World.ownsRow.cellAt (w := w) (base := base) h.own j (by omega)
      rw [Nat.zero_add, this, getElem!_pos _ j hj]
      simp [hj']
    have hcon := AnyM.slices_Sort_int sort64 g 0 cap zs w hH hgl (by omega)
    refine hcon.mono ?_
    rintro e w' ⟨rfl, n, os, rfl⟩
    have hperm := List.mergeSort_perm zs (fun x y => decide (x ≤ y))
    have hsz : (zs.mergeSort fun x y => decide (x ≤ y)).length = zs.length := hperm.length_eq
    have hpw := List.pairwise_mergeSort (le := fun x y : Int => decide (x ≤ y)) (fun a b c h1 h2 => by simp only [decide_eq_true_eq] at *; omega) (fun a b => by simp only [Bool.or_eq_true, decide_eq_true_eq]; omega) zs
    have hgr : w.grownBy (grow (putRow (Value.int .i64) (Go.Sort.ahead w n) g 0 (zs.mergeSort fun x y => decide (x ≤ y)).toArray) os) (some g) := by
      refine ⟨rfl, rfl, rfl, by simp [grow, putRow, mapBlock, Go.Sort.ahead], fun k hk hne => ?_⟩
      rw [heap_grow_old _ _ (by simpa [putRow, mapBlock, Go.Sort.ahead] using hk)]
      have : g ≠ k := fun e => hne (by rw [e])
      simp [putRow, mapBlock, Go.Sort.ahead, Array.getElem?_modify, this]
    refine ⟨rfl, _, fun n => hperm.mem_iff, hpw.imp (fun h => by simpa using h), hsz, ⟨⟨by simp, .inr ⟨g, cap, ((zs.mergeSort fun x y => decide (x ≤ y)).map (Value.int .i64) ++ cur.toList.drop (zs.length * 1)).toArray, by rw [hsz], hg, ?_, by rw [hsz]; exact h5, h6, ?_, ?_⟩⟩⟩, (Below.refl _ w).grown hgr hb (fun k hk => by injection hk with hk; omega)⟩
    · rw [heap_grow_old _ _ (by simpa [putRow, mapBlock, Go.Sort.ahead] using hgl)]
      have h' : w.heap[g]? = some (.cells (zs.map (Value.int .i64) ++ cur.toList.drop (zs.length * 1)).toArray 2 (0, 0)) := by rw [e]; simpa using hcur
      simp only [putRow, mapBlock, Go.Sort.ahead, Array.getElem?_modify, if_true, h', Option.map_some, onCells]
      rw [put_toListI _ _ _ hsz.symm]
    · have : (zs.map (Value.int .i64) ++ cur.toList.drop (zs.length * 1)).length = cap * 1 := by rw [e]; simpa using h7
      simp only [List.size_toArray, List.length_append, List.length_map] at this ⊢
      rw [hsz]; exact this
    · simp [hsz]

set_option maxHeartbeats 8000000 in
theorem rgOf_row (a : Option Addr) (zs : List Int) (cap : Nat) (w : World) (hr : Row .i64 w a zs) (hc : zs.length ≤ cap) (hm : cap ≤ maxLen) (hl : zs.length ≤ 1000000) :
    Calls Try.prog 24 #[.slice a zs.length cap] w fun e w' => ∃ v, e = .returned v ∧ GOwn w' w.heap.size v (SpanMath.ofTo zs) ∧ Below w.heap.size w w' := by
  have HC : Hid _ := clone64_any a zs cap w hr hc hm (by omega)
  have HSF : Hid (∀ v w', NOwn w' w.heap.size v zs → w.heap.size ≤ w'.heap.size → _) := fun v w' hO hb => sort64_own (base := w.heap.size) (v := v) (w := w') hO (by omega) hb
  have HIs : Hid (∀ s : List Int, (∀ n, n ∈ s ↔ n ∈ zs) → s.Pairwise (· ≤ ·) → SpanMath.ofP s = SpanMath.ofTo zs) := fun s h1 h2 => SpanMath.ofP_is h1 h2
  have HL0 : Hid (zs.length ≤ 1000000) := hl
  generalize SpanMath.ofTo zs = G at *
  generalize zs.length = n0 at *
  clear hr hc hm hl
  go_enter Try.func24, Try.ntmps24
  go_wp2_with fail
  refine Calls.mono HC.out ?_
  rintro e w1 ⟨v, rfl, hown, hb1⟩
  have HS1 : Hid _ := HSF.out v w1 hown hb1.size
  have HB : Hid _ := hb1
  clear hown hb1 HC HSF
  go_wp2_with fail
  refine Calls.mono HS1.out ?_
  rintro e w2 ⟨rfl, s, hs1, hs2, hs3, hown2, hb2⟩
  have HB2 : Hid (Below w.heap.size w w2) := HB.out.trans hb2
  have HE : Hid _ := HIs.out s hs1 hs2
  obtain ⟨a2, cap2, rfl, hrow, hc2, hm2, hnil⟩ := hown2.row
  have HCe : Hid (∀ k, k < s.length → ∀ w', Below w2.heap.size w2 w' → ∃ b off, a2 = some ⟨b, off, none⟩ ∧ w'.cell? ⟨b, off + k, none⟩ = some (.int .i64 (s[k]?.getD 0))) := fun k hk w' hB => by
    rcases hrow.later hB with h | ⟨b, off, ha, hcell⟩
    · rw [h] at hk; simp at hk
    · exact ⟨b, off, ha, hcell k hk⟩
  have HSt : Hid (∀ k, k < s.length → _) := fun k hk => SpanMath.ofP_take (l := s) (k := k) hk
  have HLen : Hid (∀ k, k ≤ s.length → (SpanMath.ofP (s.take k)).length ≤ k) := SpanMath.ofP_len s
  have HRt : Hid (∀ k, ∀ x ∈ SpanMath.ofP (s.take k), SpanMath.ok x = true) := fun k => (SpanMath.ofP_fold (s.take k) [] (hs2.sublist (List.take_sublist k s)) SpanMath.R.nil (fun x hx => by cases hx)).1.1
  have HEn : Hid (SpanMath.ofP (s.take s.length) = G) := by show _ = _; rw [List.take_of_length_le (Nat.le_refl _)]; exact HE.out
  unfold maxLen at hm2
  have hlim : s.length ≤ cap2 := hc2
  obtain ⟨n, hn⟩ : ∃ n, n = s.length := ⟨_, rfl⟩
  rw [← hn] at hc2 hlim HCe HSt HLen HEn ⊢
  have HSz : Hid (n ≤ 1000000) := by show _ ≤ _; rw [hn, hs3]; exact HL0.out
  have HBs : Hid (w.heap.size ≤ w2.heap.size) := HB2.out.size
  clear hs1 hs2 hs3 hown2 hb2 HB HS1 hn hrow hnil HE HIs HL0
  go_wp2
  go_loopw [4, 13] (fun v i wr => ∃ k : Nat, k ≤ n ∧ i = .int .i64 k ∧ GOwn wr w2.heap.size v (SpanMath.ofP (s.take k)) ∧ Below w2.heap.size w2 wr) (fun _ i _ => n - (intOf i).toNat)
  case atStart => exact ⟨0, by omega, rfl, GOwn.nil _ _, Below.refl _ _⟩
  case round =>
    obtain ⟨k, hk, rfl, hO, hB⟩ := hrel
    have HO : Hid (GOwn wr w2.heap.size _ (SpanMath.ofP (s.take k))) := hO
    have HB : Hid (Below w2.heap.size w2 wr) := hB
    clear hO hB
    by_cases hkn : k < n
    · have hki : (k : Int) < (n : Int) := by omega
      have hkc : (k : Int) < (cap2 : Int) := by omega
      obtain ⟨b, off, rfl, p0⟩ := HCe.out k hkn wr HB.out
      have HS2 : Hid _ := HSt.out k hkn
      have HPt : Hid (∀ c : Int, 1 ≤ c → c ≤ 1099511627775 → _) := fun c h1 h2 => put_own (SpanMath.ofP (s.take k)) ⟨c, c⟩ w2.heap.size wr _ HO.out HB.out.size (by have := HLen.out k hk; have := HSz.out; omega) (HRt.out k) (SpanMath.ok_iff.2 ⟨h1, h2, Int.le_refl _⟩)
      generalize s[k]?.getD 0 = c at *
      by_cases h1 : 1 ≤ c
      · by_cases h2 : c ≤ 1099511627775
        · have HS3 : Hid (SpanMath.ofP (s.take (k + 1)) = SpanMath.putM (SpanMath.ofP (s.take k)) ⟨c, c⟩) := by show _ = _; rw [HS2.out, if_pos ⟨h1, h2⟩]
          have hpt := HPt.out c h1 h2
          dsimp only at hpt
          have HP2 : Hid _ := hpt
          clear hpt HPt HS2
          go_wp2_with fail
          refine Calls.mono HP2.out ?_
          rintro e w4 ⟨v4, rfl, hown4, hb4⟩
          have HO4 : Hid (GOwn w4 w2.heap.size v4 (SpanMath.ofP (s.take (k + 1)))) := by rw [HS3.out]; exact hown4
          have HB4 : Hid (Below w2.heap.size w2 w4) := HB.out.trans hb4
          clear hown4 hb4 HO HB HP2 p0
          go_wp2
          go_roundw
          case rel => exact ⟨k + 1, by omega, by go_num, HO4.out, HB4.out⟩
          case measure => simp [intOf]; omega
        · have HS3 : Hid (SpanMath.ofP (s.take (k + 1)) = SpanMath.ofP (s.take k)) := by show _ = _; rw [HS2.out, if_neg (fun h => h2 h.2)]
          have HO4 := HO
          rw [← HS3.out] at HO4
          have b2 : decide (c ≤ 1099511627775) = false := decide_eq_false h2
          clear HS2 HPt
          go_wp2
          go_roundw
          case rel => exact ⟨k + 1, by omega, by go_num, HO4.out, HB.out⟩
          case measure => simp [intOf]; omega
      · have HS3 : Hid (SpanMath.ofP (s.take (k + 1)) = SpanMath.ofP (s.take k)) := by show _ = _; rw [HS2.out, if_neg (fun h => h1 h.1)]
        have HO4 := HO
        rw [← HS3.out] at HO4
        have b1 : decide (1 ≤ c) = false := decide_eq_false h1
        clear HS2 HPt
        go_wp2
        go_roundw
        case rel => exact ⟨k + 1, by omega, by go_num, HO4.out, HB.out⟩
        case measure => simp [intOf]; omega
    · have hkk : k = n := by omega
      have hdk : decide ((k : Int) < (n : Int)) = false := by simp; omega
      have HO5 := HO
      rw [hkk, HEn.out] at HO5
      clear hkk HO
      go_wp2
      go_ret
      exact ⟨_, rfl, GOwn.mono HO5.out HBs.out, HB2.out.trans (HB.out.mono HBs.out)⟩
end Go.Proofs.Ytnkjfenibgiaaaa

/-
  Walks of span.Has: its own function of one range, slices.IndexFunc, slices.ContainsFunc.
-/
import Derived.Test.YtnkjfenibgiaaaaFnRgA
import Derived.Test.YtnkjfenibgiaaaaFnSpanB
import Derived.Deep.Cut
namespace Go.Proofs.Ytnkjfenibgiaaaa
open Go.RowKit NumMath
open SpanMath (Rg)
set_option maxRecDepth 100000
set_option linter.unusedVariables false
set_option linter.unusedSimpArgs false

set_option maxHeartbeats 4000000 in
theorem hasFn_any (r : Rg) (n : Int) (g : Nat) (w : World) (hn : w.cell? ⟨g, 0, none⟩ = some (.int .i64 n)) :
    Calls Try.prog 28 #[.agg #[.int .i64 r.f, .int .i64 r.t], .pointer (some ⟨g, 0, none⟩)] w fun e w' => e = .returned (.bool (decide (r.f ≤ n) && decide (n ≤ r.t))) ∧ Below w.heap.size w w' := by
  have HX0 : Hid (RgAt (w.alloc (.cells #[.int .i64 r.f, .int .i64 r.t] 24)) w.heap.size r) := RgAt.new w r rfl
  have hb : Below w.heap.size w (w.alloc (.cells #[.int .i64 r.f, .int .i64 r.t] 24)) := (Below.refl _ _).alloc (Nat.le_refl _) _
  have HB : Hid _ := hb
  have hn1 : (w.alloc (.cells #[.int .i64 r.f, .int .i64 r.t] 24)).cell? ⟨g, 0, none⟩ = some (.int .i64 n) := by
    rw [hb.cell (World.block_lt_of_cell? w _ hn)]; exact hn
  have HC : Hid _ := hn1
  clear hb hn hn1
  by_cases h1 : r.f ≤ n
  · by_cases h2 : n ≤ r.t
    · have e : (decide (r.f ≤ n) && decide (n ≤ r.t)) = true := by simp [h1, h2]
      rw [e]
      clear e
      go_enter Try.func28, Try.ntmps28
      go_upto_region 1 with (fail)
      generalize w.alloc (.cells #[.int .i64 r.f, .int .i64 r.t] 24) = w1 at *
      obtain ⟨x0, x1⟩ := HX0.out.cells
      have p0 := HC.out
      go_wp2
      go_ret
      exact ⟨rfl, HB.out⟩
    · have e : (decide (r.f ≤ n) && decide (n ≤ r.t)) = false := by simp [h2]
      rw [e]
      clear e
      have b2 : decide (n ≤ r.t) = false := decide_eq_false h2
      go_enter Try.func28, Try.ntmps28
      go_upto_region 1 with (fail)
      generalize w.alloc (.cells #[.int .i64 r.f, .int .i64 r.t] 24) = w1 at *
      obtain ⟨x0, x1⟩ := HX0.out.cells
      have p0 := HC.out
      go_wp2
      go_ret
      exact ⟨rfl, HB.out⟩
  · have e : (decide (r.f ≤ n) && decide (n ≤ r.t)) = false := by simp [h1]
    rw [e]
    clear e
    have b1 : decide (r.f ≤ n) = false := decide_eq_false h1
    go_enter Try.func28, Try.ntmps28
    go_upto_region 1 with (fail)
    generalize w.alloc (.cells #[.int .i64 r.f, .int .i64 r.t] 24) = w1 at *
    obtain ⟨x0, x1⟩ := HX0.out.cells
    have p0 := HC.out
    go_wp2
    go_ret
    exact ⟨rfl, HB.out⟩
set_option maxHeartbeats 4000000 in
theorem indexFn_any (a : Option Addr) (ds : List Rg) (cap : Nat) (n : Int) (g : Nat) (w : World) (hr : GRow w a ds) (hc : ds.length ≤ cap) (hm : cap ≤ maxLen) (hn : w.cell? ⟨g, 0, none⟩ = some (.int .i64 n)) :
    Calls Try.prog 37 #[.slice a ds.length cap, .func (.func 28) #[] #[.pointer (some ⟨g, 0, none⟩)]] w fun e w' => ∃ r, e = .returned (.int .i64 r) ∧ (decide (0 ≤ r) = SpanMath.hasIn ds n) ∧ Below w.heap.size w w' := by
  unfold maxLen at hm
  have HC : Hid (∀ k, k < ds.length → ∀ w', Below w.heap.size w w' → ∃ b off, a = some ⟨b, off, none⟩ ∧ w'.cell? ⟨b, off + k * 2, none⟩ = some (.int .i64 (ds[k]?.getD SpanMath.zero).f) ∧ w'.cell? ⟨b, off + k * 2 + 1, none⟩ = some (.int .i64 (ds[k]?.getD SpanMath.zero).t)) := fun k hk w' hB => by
    obtain ⟨b, off, ha, _⟩ := (hr.later hB).at (by omega)
    subst ha
    exact ⟨b, off, rfl, GRow.cells (hr.later hB) hk⟩
  have HF : Hid (∀ (r : Rg) (w' : World), Below w.heap.size w w' → _) := fun r w' hB => hasFn_any r n g w' (by rw [hB.cell (World.block_lt_of_cell? w _ hn)]; exact hn)
  have HNo : Hid ((∀ j, j < ds.length → (decide ((ds[j]?.getD SpanMath.zero).f ≤ n) && decide (n ≤ (ds[j]?.getD SpanMath.zero).t)) = false) → SpanMath.hasIn ds n = false) := fun h => by
    cases hq : SpanMath.hasIn ds n with
    | false => rfl
    | true =>
      obtain ⟨r, hr, h1⟩ := (SpanMath.hasIn_iff ds n).1 hq
      obtain ⟨j, hj, rfl⟩ := List.getElem_of_mem hr
      have := h j hj
      simp [hj] at this
      omega
  have HYes : Hid (∀ k, k < ds.length → (decide ((ds[k]?.getD SpanMath.zero).f ≤ n) && decide (n ≤ (ds[k]?.getD SpanMath.zero).t)) = true → SpanMath.hasIn ds n = true) := fun k hk h => by
    rw [SpanMath.hasIn_iff]
    simp only [Bool.and_eq_true, decide_eq_true_eq] at h
    exact ⟨ds[k], List.getElem_mem hk, by simpa [hk] using h.1, by simpa [hk] using h.2⟩
  generalize SpanMath.hasIn ds n = R at *
  obtain ⟨m, hm2⟩ : ∃ m, m = ds.length := ⟨_, rfl⟩
  rw [← hm2] at hc HC HNo HYes ⊢
  clear hm2 hr hn
  go_enter Try.func37, Try.ntmps37
  go_wp2
  go_loopw [8] (fun i wr => ∃ k : Nat, k ≤ m ∧ i = .int .i64 k ∧ Hid (∀ j, j < k → (decide ((ds[j]?.getD SpanMath.zero).f ≤ n) && decide (n ≤ (ds[j]?.getD SpanMath.zero).t)) = false) ∧ Below w.heap.size w wr) (fun i _ => m - (intOf i).toNat)
  case atStart => exact ⟨0, by omega, rfl, fun j hj => by omega, Below.refl _ _⟩
  case round =>
    obtain ⟨k, hk, rfl, HK, hB⟩ := hrel
    have HB : Hid (Below w.heap.size w wr) := hB
    clear hB
    by_cases hkn : k < m
    · have hki : (k : Int) < (m : Int) := by omega
      have hkc : (k : Int) < (cap : Int) := by omega
      obtain ⟨b, off, rfl, p0, p1⟩ := HC.out k hkn wr HB.out
      have HY : Hid _ := HYes.out k hkn
      have HN2 : Hid ((decide ((ds[k]?.getD SpanMath.zero).f ≤ n) && decide (n ≤ (ds[k]?.getD SpanMath.zero).t)) = false → ∀ j, j < k + 1 → (decide ((ds[j]?.getD SpanMath.zero).f ≤ n) && decide (n ≤ (ds[j]?.getD SpanMath.zero).t)) = false) := fun h j hj => by
        by_cases e : j = k
        · rw [e]; exact h
        · exact HK.out j (by omega)
      have HFk : Hid _ := HF.out (ds[k]?.getD SpanMath.zero) wr HB.out
      generalize hbq : (decide ((ds[k]?.getD SpanMath.zero).f ≤ n) && decide (n ≤ (ds[k]?.getD SpanMath.zero).t)) = bq at *
      clear hbq
      generalize ds[k]?.getD SpanMath.zero = d at *
      cases bq with
      | true =>
        have HR : Hid _ := HY.out rfl
        clear HN2 HY
        go_wp2_with fail
        refine Calls.mono HFk.out ?_
        rintro e w1 ⟨rfl, hb1⟩
        have HB1 : Hid (Below w.heap.size w w1) := HB.out.trans (hb1.mono HB.out.size)
        clear hb1
        go_wp2
        go_ret
        exact ⟨_, rfl, by rw [HR.out]; simp, HB1.out⟩
      | false =>
        have HK2 : Hid _ := HN2.out rfl
        clear HN2 HY
        go_wp2_with fail
        refine Calls.mono HFk.out ?_
        rintro e w1 ⟨rfl, hb1⟩
        have HB1 : Hid (Below w.heap.size w w1) := HB.out.trans (hb1.mono HB.out.size)
        clear hb1
        go_wp2
        go_roundw
        case rel => exact ⟨k + 1, by omega, by go_num, HK2, HB1.out⟩
        case measure => simp [intOf]; omega
    · have hkk : k = m := by omega
      have hdk : decide ((k : Int) < (m : Int)) = false := by simp; omega
      have HR : Hid (R = false) := HNo.out (fun j hj => HK.out j (by omega))
      go_wp2
      go_ret
      exact ⟨_, rfl, by rw [HR.out]; rfl, HB.out⟩
theorem containsFn_any (a : Option Addr) (ds : List Rg) (cap : Nat) (n : Int) (g : Nat) (w : World) (hr : GRow w a ds) (hc : ds.length ≤ cap) (hm : cap ≤ maxLen) (hn : w.cell? ⟨g, 0, none⟩ = some (.int .i64 n)) :
    Calls Try.prog 27 #[.slice a ds.length cap, .func (.func 28) #[] #[.pointer (some ⟨g, 0, none⟩)]] w fun e w' => e = .returned (.bool (SpanMath.hasIn ds n)) ∧ Below w.heap.size w w' := by
  have H : Hid _ := indexFn_any a ds cap n g w hr hc hm hn
  generalize SpanMath.hasIn ds n = R at *
  generalize ds.length = m at *
  clear hr hn
  go_enter Try.func27, Try.ntmps27
  go_wp2_with fail
  refine Calls.mono H.out ?_
  rintro e w1 ⟨r, rfl, hq, hb1⟩
  have HB1 : Hid _ := hb1
  have HQ : Hid _ := hq
  clear hb1 hq
  go_wp2
  go_ret
  exact ⟨by rw [← HQ.out]; rfl, HB1.out⟩
set_option maxHeartbeats 4000000 in
theorem rgHas_row (a : Option Addr) (ds : List Rg) (cap : Nat) (n : Int) (w : World) (hr : GRow w a ds) (hc : ds.length ≤ cap) (hm : cap ≤ maxLen) (hf : ∀ r ∈ ds, SpanMath.Fit r) :
    Calls Try.prog 12 #[.slice a ds.length cap, .int .i64 n] w fun e w' => e = .returned (.bool (SpanMath.has ds n)) ∧ Below w.heap.size w w' := by
  have hb : Below w.heap.size w (w.alloc (.cells #[.int .i64 n] 2)) := (Below.refl _ _).alloc (Nat.le_refl _) _
  have HB0 : Hid _ := hb
  have HRi : Hid _ := rgRight_row a ds cap _ (hr.later hb) hc hm hf
  have HCn : Hid (∀ w', Below (w.heap.size + 1) (w.alloc (.cells #[.int .i64 n] 2)) w' → w'.cell? ⟨w.heap.size, 0, none⟩ = some (.int .i64 n)) := fun w' hB => by
    have h0 : Arr (w.alloc (.cells #[.int .i64 n] 2)) w.heap.size 2 [.int .i64 n] := Arr.new w 2 [.int .i64 n] rfl
    exact Arr.cell (h0.later hB (Nat.lt_succ_self _)) 0
  have HSz : Hid ((w.alloc (.cells #[.int .i64 n] 2)).heap.size = w.heap.size + 1) := by show _ = _; simp
  have HCo : Hid (∀ w', Below w.heap.size w w' → w'.cell? ⟨w.heap.size, 0, none⟩ = some (.int .i64 n) → _) := fun w' hB hn => containsFn_any a ds cap n w.heap.size w' (hr.later hB) hc hm hn
  unfold maxLen at hm
  cases hq : SpanMath.right ds with
  | false =>
    rw [hq] at HRi
    have HN : Hid (SpanMath.has ds n = false) := by show _ = _; unfold SpanMath.has; rw [hq]; rfl
    rw [HN.out]
    generalize ds.length = m at *
    clear hr hq hf hb HCo HCn
    go_enter Try.func12, Try.ntmps12
    go_upto_region 1 with (fail)
    generalize w.alloc (.cells #[.int .i64 n] 2) = w0 at *
    go_wp2_with fail
    refine Calls.mono HRi.out ?_
    rintro e w1 ⟨rfl, hb1⟩
    have HB1 : Hid (Below w.heap.size w w1) := HB0.out.trans (hb1.mono HB0.out.size)
    clear hb1
    go_wp2
    go_ret
    exact ⟨rfl, HB1.out⟩
  | true =>
    rw [hq] at HRi
    have HN : Hid (SpanMath.has ds n = SpanMath.hasIn ds n) := by show _ = _; unfold SpanMath.has; rw [hq]; rfl
    rw [HN.out]
    generalize SpanMath.hasIn ds n = R at *
    generalize ds.length = m at *
    clear hr hq hf hb HN
    go_enter Try.func12, Try.ntmps12
    go_upto_region 1 with (fail)
    generalize w.alloc (.cells #[.int .i64 n] 2) = w0 at *
    go_wp2_with fail
    refine Calls.mono HRi.out ?_
    rintro e w1 ⟨rfl, hb1⟩
    have HB1 : Hid (Below w.heap.size w w1) := HB0.out.trans (hb1.mono HB0.out.size)
    have HC1 : Hid _ := HCo.out w1 HB1.out (HCn.out w1 (by rw [← HSz.out]; exact hb1))
    clear hb1
    go_wp2_with fail
    refine Calls.mono HC1.out ?_
    rintro e w2 ⟨rfl, hb2⟩
    have HB2 : Hid (Below w.heap.size w w2) := HB1.out.trans (hb2.mono HB1.out.size)
    clear hb2
    go_wp2
    go_ret
    exact ⟨rfl, HB2.out⟩
end Go.Proofs.Ytnkjfenibgiaaaa

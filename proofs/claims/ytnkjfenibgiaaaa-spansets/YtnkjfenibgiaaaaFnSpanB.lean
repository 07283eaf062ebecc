/-
  Walks of newsreelref1.SpanHas, newsreelref1.SpanCount, newsreelref1.SpanFirst.
-/
import Derived.Test.YtnkjfenibgiaaaaFnSpanA
namespace Go.Proofs.Ytnkjfenibgiaaaa
open Go.RowKit NumMath
open SpanMath (Rg)
set_option maxRecDepth 100000
set_option linter.unusedVariables false
set_option linter.unusedSimpArgs false

theorem has_no (ds : List Rg) (n : Int) (h : ∀ j, j < ds.length → ¬ ((ds[j]?.getD SpanMath.zero).f ≤ n ∧ n ≤ (ds[j]?.getD SpanMath.zero).t)) : SpanMath.has ds n = false := by
  unfold SpanMath.has
  cases hq : SpanMath.hasIn ds n with
  | false => simp
  | true =>
    obtain ⟨r, hr, h1⟩ := (SpanMath.hasIn_iff ds n).1 hq
    obtain ⟨j, hj, rfl⟩ := List.getElem_of_mem hr
    exact absurd (by simpa [hj] using h1) (h j hj)
theorem has_yes (ds : List Rg) (n : Int) (k : Nat) (hr : SpanMath.right ds = true) (hk : k < ds.length) (h1 : (ds[k]?.getD SpanMath.zero).f ≤ n) (h2 : n ≤ (ds[k]?.getD SpanMath.zero).t) : SpanMath.has ds n = true := by
  unfold SpanMath.has
  rw [hr, Bool.true_and, SpanMath.hasIn_iff]
  exact ⟨ds[k], List.getElem_mem hk, by simpa [hk] using h1, by simpa [hk] using h2⟩
set_option maxHeartbeats 8000000 in
theorem refSpanHas_any (a : Option Addr) (ds : List Rg) (cap : Nat) (n : Int) (w : World) (hr : GRow w a ds) (hc : ds.length ≤ cap) (hm : cap ≤ maxLen) (hf : ∀ r ∈ ds, SpanMath.Fit r) :
    Calls Try.prog 13 #[.slice a ds.length cap, .int .i64 n] w fun e w' => e = .returned (.bool (SpanMath.has ds n)) ∧ Below w.heap.size w w' := by
  have HRi : Hid _ := refSpanRight_any a ds cap w hr hc hm hf
  unfold maxLen at hm
  cases hq : SpanMath.right ds with
  | false =>
    rw [hq] at HRi
    have HN : Hid (SpanMath.has ds n = false) := by show _ = _; unfold SpanMath.has; rw [hq]; rfl
    rw [HN.out]
    generalize ds.length = m at *
    clear hr hq hf
    go_enter Try.func13, Try.ntmps13
    go_wp2_with fail
    refine Calls.mono HRi.out ?_
    rintro e w1 ⟨rfl, hb1⟩
    have HB1 : Hid _ := hb1
    clear hb1
    go_wp2
    go_ret
    exact ⟨rfl, HB1.out⟩
  | true =>
    rw [hq] at HRi
    have HNo : Hid ((∀ j, j < ds.length → ¬ ((ds[j]?.getD SpanMath.zero).f ≤ n ∧ n ≤ (ds[j]?.getD SpanMath.zero).t)) → SpanMath.has ds n = false) := has_no ds n
    have HYes : Hid (∀ k, k < ds.length → (ds[k]?.getD SpanMath.zero).f ≤ n → n ≤ (ds[k]?.getD SpanMath.zero).t → SpanMath.has ds n = true) := fun k hk h1 h2 => has_yes ds n k hq hk h1 h2
    have HC : Hid (∀ k, k < ds.length → ∀ w', Below w.heap.size w w' → ∃ b off, a = some ⟨b, off, none⟩ ∧ w'.cell? ⟨b, off + k * 2, none⟩ = some (.int .i64 (ds[k]?.getD SpanMath.zero).f) ∧ w'.cell? ⟨b, off + k * 2 + 1, none⟩ = some (.int .i64 (ds[k]?.getD SpanMath.zero).t)) := fun k hk w' hB => by
      obtain ⟨b, off, ha, _⟩ := (hr.later hB).at (by omega)
      subst ha
      exact ⟨b, off, rfl, GRow.cells (hr.later hB) hk⟩
    generalize SpanMath.has ds n = R at *
    obtain ⟨m, hm2⟩ : ∃ m, m = ds.length := ⟨_, rfl⟩
    rw [← hm2] at hc HRi HNo HYes HC ⊢
    clear hm2 hr hq hf
    go_enter Try.func13, Try.ntmps13
    go_wp2_with fail
    refine Calls.mono HRi.out ?_
    rintro e w1 ⟨rfl, hb1⟩
    have HB1 : Hid (Below w.heap.size w w1) := hb1
    clear hb1 HRi
    go_wp2
    go_loopw [5] (fun i wr => ∃ k : Nat, k ≤ m ∧ i = .int .i64 k ∧ Hid (∀ j, j < k → ¬ ((ds[j]?.getD SpanMath.zero).f ≤ n ∧ n ≤ (ds[j]?.getD SpanMath.zero).t)) ∧ Below w.heap.size w wr) (fun i _ => m - (intOf i).toNat)
    case atStart => exact ⟨0, by omega, rfl, fun j hj => by omega, HB1.out⟩
    case round =>
      obtain ⟨k, hk, rfl, HK, hB⟩ := hrel
      have HB : Hid (Below w.heap.size w wr) := hB
      clear hB
      by_cases hkn : k < m
      · have hki : (k : Int) < (m : Int) := by omega
        have hkc : (k : Int) < (cap : Int) := by omega
        obtain ⟨b, off, rfl, p0, p1⟩ := HC.out k hkn wr HB.out
        have HY : Hid _ := HYes.out k hkn
        have HN2 : Hid (¬ ((ds[k]?.getD SpanMath.zero).f ≤ n ∧ n ≤ (ds[k]?.getD SpanMath.zero).t) → ∀ j, j < k + 1 → ¬ ((ds[j]?.getD SpanMath.zero).f ≤ n ∧ n ≤ (ds[j]?.getD SpanMath.zero).t)) := fun h j hj => by
          by_cases e : j = k
          · rw [e]; exact h
          · exact HK.out j (by omega)
        generalize ds[k]?.getD SpanMath.zero = d at *
        by_cases h1 : d.f ≤ n
        · by_cases h2 : n ≤ d.t
          · have HR : Hid (R = true) := HY.out h1 h2
            go_wp2
            go_ret
            exact ⟨by rw [HR.out]; rfl, HB.out⟩
          · have HK2 : Hid _ := HN2.out (fun h => h2 h.2)
            have b1 : decide (n ≤ d.t) = false := decide_eq_false h2
            go_wp2
            go_roundw
            case rel => exact ⟨k + 1, by omega, by go_num, HK2, HB.out⟩
            case measure => simp [intOf]; omega
        · have HK2 : Hid _ := HN2.out (fun h => h1 h.1)
          have b1 : decide (d.f ≤ n) = false := decide_eq_false h1
          go_wp2
          go_roundw
          case rel => exact ⟨k + 1, by omega, by go_num, HK2, HB.out⟩
          case measure => simp [intOf]; omega
      · have hkk : k = m := by omega
        have hdk : decide ((k : Int) < (m : Int)) = false := by simp; omega
        have HR : Hid (R = false) := HNo.out (fun j hj => HK.out j (by omega))
        go_wp2
        go_ret
        exact ⟨by rw [HR.out]; rfl, HB.out⟩

theorem refSpanFirst_any (a : Option Addr) (ds : List Rg) (cap : Nat) (w : World) (hr : GRow w a ds) (hc : ds.length ≤ cap) (hm : cap ≤ maxLen) (hf : ∀ r ∈ ds, SpanMath.Fit r) :
    Calls Try.prog 17 #[.slice a ds.length cap] w fun e w' => e = .returned (.int .i64 (SpanMath.first ds)) ∧ Below w.heap.size w w' := by
  have HRi : Hid _ := refSpanRight_any a ds cap w hr hc hm hf
  unfold maxLen at hm
  cases hq : SpanMath.right ds with
  | false =>
    rw [hq] at HRi
    have HN : Hid (SpanMath.first ds = 0) := by show _ = _; unfold SpanMath.first; rw [if_neg (by rw [hq]; simp)]
    rw [HN.out]
    generalize ds.length = m at *
    clear hr hq hf
    go_enter Try.func17, Try.ntmps17
    go_wp2_with fail
    refine Calls.mono HRi.out ?_
    rintro e w1 ⟨rfl, hb1⟩
    have HB1 : Hid _ := hb1
    clear hb1
    go_wp2
    go_ret
    exact ⟨rfl, HB1.out⟩
  | true =>
    rw [hq] at HRi
    cases ds with
    | nil =>
      have HN : Hid (SpanMath.first [] = 0) := rfl
      rw [HN.out]
      clear hr hq hf
      go_enter Try.func17, Try.ntmps17
      go_wp2_with fail
      refine Calls.mono HRi.out ?_
      rintro e w1 ⟨rfl, hb1⟩
      have HB1 : Hid _ := hb1
      clear hb1
      go_wp2
      go_ret
      exact ⟨rfl, HB1.out⟩
    | cons d t =>
      obtain ⟨b, off, rfl, _⟩ := hr.at (by simp)
      have HC : Hid (∀ w', Below w.heap.size w w' → w'.cell? ⟨b, off, none⟩ = some (.int .i64 d.f) ∧ w'.cell? ⟨b, off + 1, none⟩ = some (.int .i64 d.t)) := fun w' hB => by
        have := GRow.cells (hr.later hB) (i := 0) (by simp)
        simpa using this
      have HF : Hid (SpanMath.first (d :: t) = if d.f ≤ 1 then d.t else 0) := by
        show _ = _; unfold SpanMath.first; rw [hq]; simp
      rw [HF.out]
      rw [List.length_cons] at HRi ⊢
      have hl : (((t.length + 1 : Nat) : Int) == 0) = false := by simp; omega
      have hl2 : ((t.length : Int) + 1 == 0) = false := by simp; omega
      have hl3 : (0 : Int) < ((t.length + 1 : Nat) : Int) := by omega
      have hl4 : (0 : Int) < (t.length : Int) + 1 := by omega
      generalize t.length = m at *
      clear hr hq hf hc HF
      by_cases h1 : d.f ≤ 1
      · rw [if_pos h1]
        have b1 : decide ((1 : Int) < d.f) = false := decide_eq_false (by omega)
        go_enter Try.func17, Try.ntmps17
        go_wp2_with fail
        refine Calls.mono HRi.out ?_
        rintro e w1 ⟨rfl, hb1⟩
        have HB1 : Hid _ := hb1
        obtain ⟨p0, p1⟩ := HC.out w1 hb1
        clear hb1
        go_wp2
        go_ret
        exact ⟨rfl, HB1.out⟩
      · rw [if_neg h1]
        have b1 : decide ((1 : Int) < d.f) = true := decide_eq_true (by omega)
        go_enter Try.func17, Try.ntmps17
        go_wp2_with fail
        refine Calls.mono HRi.out ?_
        rintro e w1 ⟨rfl, hb1⟩
        have HB1 : Hid _ := hb1
        obtain ⟨p0, p1⟩ := HC.out w1 hb1
        clear hb1
        go_wp2
        go_ret
        exact ⟨rfl, HB1.out⟩
end Go.Proofs.Ytnkjfenibgiaaaa

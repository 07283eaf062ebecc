/-
  Walks of span.Count, span.First.
-/
import Derived.Test.YtnkjfenibgiaaaaFnRgA
namespace Go.Proofs.Ytnkjfenibgiaaaa
open Go.RowKit NumMath
open SpanMath (Rg)
set_option maxRecDepth 100000
set_option linter.unusedVariables false
set_option linter.unusedSimpArgs false

set_option maxHeartbeats 8000000 in
theorem rgCount_row (a : Option Addr) (ds : List Rg) (cap : Nat) (w : World) (hr : GRow w a ds) (hc : ds.length ≤ cap) (hm : cap ≤ maxLen) (hf : ∀ r ∈ ds, SpanMath.Fit r) :
    Calls Try.prog 14 #[.slice a ds.length cap] w fun e w' => e = .returned (.int .i64 (SpanMath.count ds)) ∧ Below w.heap.size w w' := by
  have HRi : Hid _ := rgRight_row a ds cap w hr hc hm hf
  unfold maxLen at hm
  cases hq : SpanMath.right ds with
  | false =>
    rw [hq] at HRi
    have HN : Hid (SpanMath.count ds = 0) := by show _ = _; unfold SpanMath.count; rw [if_neg (by rw [hq]; simp)]
    rw [HN.out]
    generalize ds.length = m at *
    clear hr hq hf
    go_enter Try.func14, Try.ntmps14
    go_wp2_with fail
    refine Calls.mono HRi.out ?_
    rintro e w1 ⟨rfl, hb1⟩
    have HB1 : Hid _ := hb1
    clear hb1
    go_wp2
    go_ret
    exact ⟨rfl, HB1.out⟩
  | true =>
    rw [hq] at HRi
    have hR := (SpanMath.right_iff ds).1 hq
    have HC : Hid (∀ k, k < ds.length → ∀ w', Below w.heap.size w w' → ∃ b off, a = some ⟨b, off, none⟩ ∧ w'.cell? ⟨b, off + k * 2, none⟩ = some (.int .i64 (ds[k]?.getD SpanMath.zero).f) ∧ w'.cell? ⟨b, off + k * 2 + 1, none⟩ = some (.int .i64 (ds[k]?.getD SpanMath.zero).t)) := fun k hk w' hB => by
      obtain ⟨b, off, ha, _⟩ := (hr.later hB).at (by omega)
      subst ha
      exact ⟨b, off, rfl, GRow.cells (hr.later hB) hk⟩
    have HF : Hid (SpanMath.count ds = SpanMath.sum (ds.take ds.length)) := by show _ = _; unfold SpanMath.count; rw [if_pos hq, List.take_of_length_le (Nat.le_refl _)]
    have HS : Hid (∀ k, k < ds.length → SpanMath.sum (ds.take (k + 1)) = SpanMath.sum (ds.take k) + ((ds[k]?.getD SpanMath.zero).t - (ds[k]?.getD SpanMath.zero).f + 1)) := fun k hk => by
      rw [List.take_succ_eq_append_getElem hk, SpanMath.sum_snoc]; simp [hk]
    have HL : Hid (∀ k, 0 ≤ SpanMath.sum (ds.take k) ∧ SpanMath.sum (ds.take k) ≤ 1099511627775) := fun k => SpanMath.sum_le (hR.take k)
    have HO : Hid (∀ k, k < ds.length → 1 ≤ (ds[k]?.getD SpanMath.zero).f ∧ (ds[k]?.getD SpanMath.zero).t ≤ 1099511627775 ∧ (ds[k]?.getD SpanMath.zero).f ≤ (ds[k]?.getD SpanMath.zero).t) := fun k hk => by
      rw [List.getElem?_eq_getElem hk]; exact SpanMath.ok_iff.1 (hR.1 _ (List.getElem_mem hk))
    obtain ⟨m, hm2⟩ : ∃ m, m = ds.length := ⟨_, rfl⟩
    rw [← hm2] at hc HRi HC HF HS HO ⊢
    generalize SpanMath.count ds = C at *
    clear hm2 hr hq hf hR
    go_enter Try.func14, Try.ntmps14
    go_wp2_with fail
    refine Calls.mono HRi.out ?_
    rintro e w1 ⟨rfl, hb1⟩
    have HB1 : Hid (Below w.heap.size w w1) := hb1
    clear hb1 HRi
    go_wp2
    go_loopw [3, 11] (fun s i wr => ∃ k : Nat, k ≤ m ∧ i = .int .i64 k ∧ s = .int .i64 (SpanMath.sum (ds.take k)) ∧ Below w.heap.size w wr) (fun _ i _ => m - (intOf i).toNat)
    case atStart => exact ⟨0, by omega, rfl, by simp [SpanMath.sum], HB1.out⟩
    case round =>
      obtain ⟨k, hk, rfl, rfl, hB⟩ := hrel
      clear HB1
      have HB : Hid (Below w.heap.size w wr) := hB
      clear hB
      by_cases hkn : k < m
      · have hki : (k : Int) < (m : Int) := by omega
        have hkc : (k : Int) < (cap : Int) := by omega
        have HS2 : Hid _ := HS.out k hkn
        have hs1 := HL.out k
        have hs2 := HL.out (k + 1)
        rw [HS2.out] at hs2
        have hok := HO.out k hkn
        obtain ⟨b, off, rfl, p0, p1⟩ := HC.out k hkn wr HB.out
        generalize SpanMath.sum (ds.take k) = s at *
        generalize ds[k]?.getD SpanMath.zero = d at *
        have e1 : IntKind.i64.wrap (d.t - d.f) = d.t - d.f := by rw [IntKind.wrap_i64]; omega
        have e2 : IntKind.i64.wrap (d.t - d.f + 1) = d.t - d.f + 1 := by rw [IntKind.wrap_i64]; omega
        have e3 : IntKind.i64.wrap (s + (d.t - d.f + 1)) = s + (d.t - d.f + 1) := by rw [IntKind.wrap_i64]; omega
        have HXn : Hid (RgAt (wr.alloc (.cells #[.int .i64 0, .int .i64 0] 24)) wr.heap.size SpanMath.zero) := RgAt.new wr SpanMath.zero rfl
        have HX1 : Hid (RgAt ((wr.alloc (.cells #[.int .i64 0, .int .i64 0] 24)).setRow wr.heap.size (rgL d).toArray) wr.heap.size d) := RgAt.row HXn.out
        have hl : Below wr.heap.size wr ((wr.alloc (.cells #[.int .i64 0, .int .i64 0] 24)).setRow wr.heap.size (rgL d).toArray) := below_setRow ((Below.refl _ _).alloc (Nat.le_refl _) _) (Nat.le_refl _) _
        have HB1 : Hid _ := HB.out.trans (hl.mono HB.out.size)
        clear hl
        go_upto_region 7 with (refine wpList_store_rg rfl (.tmp 5) (.tmp 14) rfl wr.heap.size SpanMath.zero d rfl rfl HXn.out ?_)
        clear HXn HB p0 p1
        generalize (wr.alloc (.cells #[.int .i64 0, .int .i64 0] 24)).setRow wr.heap.size (rgL d).toArray = w3 at *
        generalize wr.heap.size = g at *
        obtain ⟨x0, x1⟩ := HX1.out.cells
        go_wp2
        go_roundw
        case rel => exact ⟨k + 1, by omega, by go_num, by rw [HS2.out], HB1.out⟩
        case measure => simp [intOf]; omega
      · have hkk : k = m := by omega
        have hdk : decide ((k : Int) < (m : Int)) = false := by simp; omega
        subst hkk
        rw [← HF.out]
        clear hkn
        go_wp2
        go_ret
        exact ⟨rfl, HB.out⟩

set_option maxHeartbeats 4000000 in
theorem rgFirst_row (a : Option Addr) (ds : List Rg) (cap : Nat) (w : World) (hr : GRow w a ds) (hc : ds.length ≤ cap) (hm : cap ≤ maxLen) (hf : ∀ r ∈ ds, SpanMath.Fit r) :
    Calls Try.prog 16 #[.slice a ds.length cap] w fun e w' => e = .returned (.int .i64 (SpanMath.first ds)) ∧ Below w.heap.size w w' := by
  have HRi : Hid _ := rgRight_row a ds cap w hr hc hm hf
  unfold maxLen at hm
  cases hq : SpanMath.right ds with
  | false =>
    rw [hq] at HRi
    have HN : Hid (SpanMath.first ds = 0) := SpanMath.first_no (.inl hq)
    rw [HN.out]
    generalize ds.length = m at *
    clear hr hq hf
    go_enter Try.func16, Try.ntmps16
    go_wp2_with fail
    refine Calls.mono HRi.out ?_
    rintro e w1 ⟨rfl, hb1⟩
    have HB1 : Hid _ := hb1
    clear hb1
    go_wp2
    go_ret
    exact ⟨rfl, HB1.out⟩
  | true =>
    rw [hq] at HRi
    by_cases h0 : ds.length = 0
    · have HN : Hid (SpanMath.first ds = 0) := SpanMath.first_no (.inr (.inl h0))
      rw [HN.out]
      rw [h0] at HRi ⊢
      clear hr hq hf
      go_enter Try.func16, Try.ntmps16
      go_wp2_with fail
      refine Calls.mono HRi.out ?_
      rintro e w1 ⟨rfl, hb1⟩
      have HB1 : Hid _ := hb1
      clear hb1
      go_wp2
      go_ret
      exact ⟨rfl, HB1.out⟩
    · obtain ⟨b, off, rfl, _⟩ := hr.at (by omega)
      have HC : Hid (∀ w', Below w.heap.size w w' → w'.cell? ⟨b, off, none⟩ = some (.int .i64 (ds[0]?.getD SpanMath.zero).f) ∧ w'.cell? ⟨b, off + 1, none⟩ = some (.int .i64 (ds[0]?.getD SpanMath.zero).t)) := fun w' hB => by
        have := GRow.cells (hr.later hB) (i := 0) (by omega)
        simpa using this
      have HNo : Hid ((ds[0]?.getD SpanMath.zero).f ≠ 1 → SpanMath.first ds = 0) := fun h => SpanMath.first_no (.inr (.inr ⟨hq, h⟩))
      have HYes : Hid ((ds[0]?.getD SpanMath.zero).f = 1 → SpanMath.first ds = (ds[0]?.getD SpanMath.zero).t) := fun h => SpanMath.first_yes hq (by omega) h
      generalize ds[0]?.getD SpanMath.zero = d at *
      generalize SpanMath.first ds = F at *
      generalize ds.length = m at *
      have hl : ((m : Int) == 0) = false := by simpa using h0
      have hl3 : (0 : Int) < (m : Int) := by omega
      have hl4 : (0 : Int) < (cap : Int) := by omega
      clear hr hq hf hc
      by_cases h1 : d.f = 1
      · have HF : Hid _ := HYes.out h1
        have b1 : (d.f != 1) = false := by simpa using h1
        have b2 : (d.f == 1) = true := by simpa using h1
        have HD : Hid (d.f = 1) := h1
        clear h1
        go_enter Try.func16, Try.ntmps16
        go_wp2_with fail
        refine Calls.mono HRi.out ?_
        rintro e w1 ⟨rfl, hb1⟩
        have HB1 : Hid _ := hb1
        obtain ⟨p0, p1⟩ := HC.out w1 hb1
        clear hb1
        go_wp2
        go_ret
        exact ⟨by rw [HF.out]; rfl, HB1.out⟩
      · have HF : Hid _ := HNo.out h1
        have b1 : (d.f != 1) = true := by simpa using h1
        have b2 : (d.f == 1) = false := by simpa using h1
        go_enter Try.func16, Try.ntmps16
        go_wp2_with fail
        refine Calls.mono HRi.out ?_
        rintro e w1 ⟨rfl, hb1⟩
        have HB1 : Hid _ := hb1
        obtain ⟨p0, p1⟩ := HC.out w1 hb1
        clear hb1
        go_wp2
        go_ret
        exact ⟨by rw [HF.out]; rfl, HB1.out⟩
end Go.Proofs.Ytnkjfenibgiaaaa

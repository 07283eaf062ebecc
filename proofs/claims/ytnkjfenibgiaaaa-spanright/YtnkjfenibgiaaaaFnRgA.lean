/-
  Walks of span.Right, span.Count, span.First.
-/
import Derived.Test.YtnkjfenibgiaaaaRngOwn
import Derived.Test.YtnkjfenibgiaaaaSpanPut
import Derived.Deep.Cut
namespace Go.Proofs.Ytnkjfenibgiaaaa
open Go.RowKit NumMath
open SpanMath (Rg)
set_option maxRecDepth 100000
set_option linter.unusedVariables false
set_option linter.unusedSimpArgs false

set_option maxHeartbeats 8000000 in
theorem rgRight_row (a : Option Addr) (ds : List Rg) (cap : Nat) (w : World) (hr : GRow w a ds) (hc : ds.length ≤ cap) (hm : cap ≤ maxLen) (hf : ∀ r ∈ ds, SpanMath.Fit r) :
    Calls Try.prog 10 #[.slice a ds.length cap] w fun e w' => e = .returned (.bool (SpanMath.right ds)) ∧ Below w.heap.size w w' := by
  unfold maxLen at hm
  have HC : Hid (∀ k, k < ds.length → ∀ w', Below w.heap.size w w' → ∃ b off, a = some ⟨b, off, none⟩ ∧ w'.cell? ⟨b, off + k * 2, none⟩ = some (.int .i64 (ds[k]?.getD SpanMath.zero).f) ∧ w'.cell? ⟨b, off + k * 2 + 1, none⟩ = some (.int .i64 (ds[k]?.getD SpanMath.zero).t)) := fun k hk w' hB => by
    obtain ⟨b, off, ha, _⟩ := (hr.later hB).at (by omega)
    subst ha
    exact ⟨b, off, rfl, GRow.cells (hr.later hB) hk⟩
  have HA : Hid (SpanMath.right ds = SpanMath.rightTo ds ds.length) := rfl
  have HNo : Hid (∀ k, k < ds.length → _ → SpanMath.right ds = false) := fun k hk h => SpanMath.okAt_no (l := ds) (k := k) hk h
  have HYes : Hid (∀ k, SpanMath.rightTo ds k = true → _ → _ → _ → SpanMath.rightTo ds (k + 1) = true) := fun k h h1 h2 h3 => SpanMath.okAt_end (l := ds) (k := k) h h1 h2 h3
  have HE : Hid (∀ k, SpanMath.rightTo ds k = true → _) := fun k h => SpanMath.endOf_bound (l := ds) (k := k) h
  have HEs : Hid (∀ k, SpanMath.endOf ds (k + 1) = (ds[k]?.getD SpanMath.zero).t) := SpanMath.endOf_succ ds
  have HFt : Hid (∀ k, k < ds.length → SpanMath.Fit (ds[k]?.getD SpanMath.zero)) := fun k hk => by
    rw [List.getElem?_eq_getElem hk]; exact hf _ (List.getElem_mem hk)
  obtain ⟨n, hn⟩ : ∃ n, n = ds.length := ⟨_, rfl⟩
  rw [← hn] at hc HC HA HNo HFt ⊢
  clear hn hr hf
  go_enter Try.func10, Try.ntmps10
  go_wp2
  go_loopw [3, 8] (fun e i wr => ∃ k : Nat, k ≤ n ∧ i = .int .i64 k ∧ e = .int .i64 (SpanMath.endOf ds k) ∧ Hid (SpanMath.rightTo ds k = true) ∧ Below w.heap.size w wr) (fun _ i _ => n - (intOf i).toNat)
  case atStart => exact ⟨0, by omega, rfl, rfl, rfl, Below.refl _ _⟩
  case round =>
    obtain ⟨k, hk, rfl, rfl, HT, hB⟩ := hrel
    have HB : Hid (Below w.heap.size w wr) := hB
    clear hB
    by_cases hkn : k < n
    · have hki : (k : Int) < (n : Int) := by omega
      have hkc : (k : Int) < (cap : Int) := by omega
      obtain ⟨b, off, rfl, p0, p1⟩ := HC.out k hkn wr HB.out
      have hfk := HFt.out k hkn
      have hbd := HE.out k HT.out
      have HNk : Hid _ := HNo.out k hkn
      have HYk : Hid _ := HYes.out k HT.out
      have HEk : Hid _ := HEs.out k
      generalize ds[k]?.getD SpanMath.zero = d at *
      generalize SpanMath.endOf ds k = e at *
      unfold SpanMath.Fit at hfk
      have ew : IntKind.i64.wrap (e + 2) = e + 2 := by rw [IntKind.wrap_i64]; omega
      have HXn : Hid (RgAt (wr.alloc (.cells #[.int .i64 0, .int .i64 0] 24)) wr.heap.size SpanMath.zero) := RgAt.new wr SpanMath.zero rfl
      have HX1 : Hid (RgAt ((wr.alloc (.cells #[.int .i64 0, .int .i64 0] 24)).setRow wr.heap.size (rgL d).toArray) wr.heap.size d) := RgAt.row HXn.out
      have hl : Below wr.heap.size wr ((wr.alloc (.cells #[.int .i64 0, .int .i64 0] 24)).setRow wr.heap.size (rgL d).toArray) := below_setRow ((Below.refl _ _).alloc (Nat.le_refl _) _) (Nat.le_refl _) _
      have HB1 : Hid _ := HB.out.trans (hl.mono HB.out.size)
      clear hl
      go_upto_region 5 with (refine wpList_store_rg rfl (.tmp 5) (.tmp 11) rfl wr.heap.size SpanMath.zero d rfl rfl HXn.out ?_)
      clear HXn HB p0 p1
      generalize (wr.alloc (.cells #[.int .i64 0, .int .i64 0] 24)).setRow wr.heap.size (rgL d).toArray = w3 at *
      generalize wr.heap.size = g at *
      obtain ⟨x0, x1⟩ := HX1.out.cells
      by_cases h1 : e + 2 ≤ d.f
      · have b1 : decide (d.f < e + 2) = false := decide_eq_false (by omega)
        by_cases h2 : d.f ≤ d.t
        · have b2 : decide (d.t < d.f) = false := decide_eq_false (by omega)
          by_cases h3 : d.t ≤ 1099511627775
          · have b3 : decide (1099511627775 < d.t) = false := decide_eq_false (by omega)
            have HY2 : Hid _ := HYk.out h1 h2 h3
            clear HNk HYk hfk hbd
            go_wp2
            go_roundw
            case rel => exact ⟨k + 1, by omega, by go_num, by rw [HEk.out], HY2, HB1.out⟩
            case measure => simp [intOf]; omega
          · have b3 : decide (1099511627775 < d.t) = true := decide_eq_true (by omega)
            have HN : Hid _ := HNk.out (.inr (.inr (by omega)))
            go_wp2
            go_ret
            exact ⟨by rw [HN.out]; rfl, HB1.out⟩
        · have b2 : decide (d.t < d.f) = true := decide_eq_true (by omega)
          have HN : Hid _ := HNk.out (.inr (.inl (by omega)))
          go_wp2
          go_ret
          exact ⟨by rw [HN.out]; rfl, HB1.out⟩
      · have b1 : decide (d.f < e + 2) = true := decide_eq_true (by omega)
        have HN : Hid _ := HNk.out (.inl (by omega))
        go_wp2
        go_ret
        exact ⟨by rw [HN.out]; rfl, HB1.out⟩
    · have hkk : k = n := by omega
      have hdk : decide ((k : Int) < (n : Int)) = false := by simp; omega
      have HN : Hid (SpanMath.right ds = true) := by show _ = _; rw [HA.out, ← hkk]; exact HT.out
      clear hkk
      go_wp2
      go_ret
      exact ⟨by rw [HN.out]; rfl, HB.out⟩
end Go.Proofs.Ytnkjfenibgiaaaa

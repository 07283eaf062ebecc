/-
  Walk of span.rest.
-/
import Derived.Test.YtnkjfenibgiaaaaFnRgP
import Derived.Test.YtnkjfenibgiaaaaFnSpanF
namespace Go.Proofs.Ytnkjfenibgiaaaa
open Go.RowKit NumMath
open SpanMath (Rg)
set_option maxRecDepth 100000
set_option linter.unusedVariables false
set_option linter.unusedSimpArgs false

theorem RgAt.grown {w w' : World} {g : Nat} {s : Rg} {row : Option Nat} (h : RgAt w g s) (hg : w.grownBy w' row) (hne : row ≠ some g) : RgAt w' g s :=
  by
  obtain ⟨_, _, _, _, hk⟩ := hg
  exact ⟨(hk g h.lt (fun e => hne e.symm)).trans h.arr⟩
set_option maxHeartbeats 8000000 in
theorem rest_own (a : Option Addr) (ds : List Rg) (cap : Nat) (w : World) (hr : GRow w a ds) (hc : ds.length ≤ cap) (hm : cap ≤ maxLen) (hR : SpanMath.R ds) :
    Calls Try.prog 34 #[.slice a ds.length cap] w fun e w' => ∃ v, e = .returned v ∧ GOwn w' w.heap.size v (SpanMath.rest ds) ∧ Below w.heap.size w w' := by
  unfold maxLen at hm
  have hlim := len_le hR
  have HC : Hid (∀ k, k < ds.length → ∀ w', Below w.heap.size w w' → ∃ b off, a = some ⟨b, off, none⟩ ∧ w'.cell? ⟨b, off + k * 2, none⟩ = some (.int .i64 (ds[k]?.getD SpanMath.zero).f) ∧ w'.cell? ⟨b, off + k * 2 + 1, none⟩ = some (.int .i64 (ds[k]?.getD SpanMath.zero).t)) := fun k hk w' hB => by
    obtain ⟨b, off, ha, _⟩ := (hr.later hB).at (by omega)
    subst ha
    exact ⟨b, off, rfl, GRow.cells (hr.later hB) hk⟩
  have HO : Hid (∀ k, k < ds.length → 1 ≤ (ds[k]?.getD SpanMath.zero).f ∧ (ds[k]?.getD SpanMath.zero).t ≤ 1099511627775 ∧ (ds[k]?.getD SpanMath.zero).f ≤ (ds[k]?.getD SpanMath.zero).t) := fun k hk => by
    rw [List.getElem?_eq_getElem hk]; exact SpanMath.ok_iff.1 (hR.1 _ (List.getElem_mem hk))
  have HSt : Hid (∀ k b, k < ds.length → SpanMath.gaps b (ds.drop k) = (if b < (ds[k]?.getD SpanMath.zero).f then [⟨b, (ds[k]?.getD SpanMath.zero).f - 1⟩] else []) ++ SpanMath.gaps ((ds[k]?.getD SpanMath.zero).t + 1) (ds.drop (k + 1))) := fun k b hk => SpanMath.gaps_step b hk
  have HE : Hid (∀ b, SpanMath.gaps b (ds.drop ds.length) = if b ≤ 1099511627775 then [⟨b, 1099511627775⟩] else []) := fun b => by
    rw [List.drop_eq_nil_of_le (Nat.le_refl _)]; rfl
  have HRs : Hid (SpanMath.rest ds = SpanMath.gaps 1 (ds.drop 0)) := rfl
  obtain ⟨n, hn⟩ : ∃ n, n = ds.length := ⟨_, rfl⟩
  rw [← hn] at hc hlim HC HO HSt HE ⊢
  generalize SpanMath.rest ds = RS at *
  clear hn hr hR
  go_enter Try.func34, Try.ntmps34
  go_wp2
  go_loopw [3, 4, 9] (fun v f i wr => ∃ (k : Nat) (out : List Rg) (b : Int), k ≤ n ∧ i = .int .i64 k ∧ f = .int .i64 b ∧ 0 ≤ b ∧ b ≤ 1099511627776 ∧ Hid (RS = out ++ SpanMath.gaps b (ds.drop k)) ∧ out.length ≤ k ∧ GOwn wr w.heap.size v out ∧ Below w.heap.size w wr) (fun _ _ i _ => n - (intOf i).toNat)
  case atStart => exact ⟨0, [], 1, by omega, rfl, rfl, by omega, by omega, HRs, by simp, GOwn.nil _ _, Below.refl _ _⟩
  case round =>
    obtain ⟨k, out, b0, hk, rfl, rfl, hb0, hb1, HQ, hlen, hO, hB⟩ := hrel
    have HOw : Hid (GOwn wr w.heap.size _ out) := hO
    have HB : Hid (Below w.heap.size w wr) := hB
    clear hB hO
    by_cases hkn : k < n
    · have hki : (k : Int) < (n : Int) := by omega
      have hkc : (k : Int) < (cap : Int) := by omega
      obtain ⟨b, off, rfl, p0, p1⟩ := HC.out k hkn wr HB.out
      have HSk : Hid _ := HSt.out k b0 hkn
      have hok := HO.out k hkn
      generalize ds[k]?.getD SpanMath.zero = d at *
      have et : IntKind.i64.wrap (d.t + 1) = d.t + 1 := by rw [IntKind.wrap_i64]; omega
      have hXn : Hid (RgAt (wr.alloc (.cells #[.int .i64 0, .int .i64 0] 24)) wr.heap.size SpanMath.zero) := RgAt.new wr SpanMath.zero rfl
      have HX1 : Hid (RgAt ((wr.alloc (.cells #[.int .i64 0, .int .i64 0] 24)).setRow wr.heap.size (rgL d).toArray) wr.heap.size d) := RgAt.row hXn.out
      have hl : Below wr.heap.size wr ((wr.alloc (.cells #[.int .i64 0, .int .i64 0] 24)).setRow wr.heap.size (rgL d).toArray) := below_setRow ((Below.refl _ _).alloc (Nat.le_refl _) _) (Nat.le_refl _) _
      have HB1 : Hid (Below w.heap.size w _) := HB.out.trans (hl.mono HB.out.size)
      have HO1 : Hid (GOwn _ w.heap.size _ out) := HOw.out.later hl
      have HNe : Hid (∀ q, _ = some q → q ≠ wr.heap.size) := fun q hq => by have := (HOw.out.lt q hq).2; omega
      clear hl
      go_upto_region 6 with (refine wpList_store_rg rfl (.tmp 6) (.tmp 12) rfl wr.heap.size SpanMath.zero d rfl rfl hXn.out ?_)
      clear hXn HB HOw p0 p1
      generalize (wr.alloc (.cells #[.int .i64 0, .int .i64 0] 24)).setRow wr.heap.size (rgL d).toArray = w3 at *
      generalize wr.heap.size = g at *
      obtain ⟨x0, x1⟩ := HX1.out.cells
      by_cases hbf : b0 < d.f
      · obtain ⟨m1, hm1⟩ : ∃ m1, m1 = d.f - 1 := ⟨_, rfl⟩
        have em : IntKind.i64.wrap (d.f - 1) = m1 := by rw [IntKind.wrap_i64]; omega
        have HQ2 : Hid (RS = (out ++ [⟨b0, m1⟩]) ++ SpanMath.gaps (d.t + 1) (ds.drop (k + 1))) := by
          show _ = _; rw [HQ.out, HSk.out, if_pos hbf, ← hm1, List.append_assoc]
        clear hm1 HQ HSk
        go_upto_region 7 with (fail)
        have HLi : Hid (GRow (w3.alloc (.cells #[.int .i64 b0, .int .i64 m1] 24)) (some ⟨w3.heap.size, 0, none⟩) [(⟨b0, m1⟩ : Rg)]) := lit_rngs w3 [(⟨b0, m1⟩ : Rg)] rfl
        have hb8 : Below w3.heap.size w3 (w3.alloc (.cells #[.int .i64 b0, .int .i64 m1] 24)) := (Below.refl _ _).alloc (Nat.le_refl _) _
        have HB8 : Hid (Below w.heap.size w (w3.alloc (.cells #[.int .i64 b0, .int .i64 m1] 24))) := HB1.out.trans (hb8.mono HB1.out.size)
        have HX8 : Hid (RgAt (w3.alloc (.cells #[.int .i64 b0, .int .i64 m1] 24)) g d) := HX1.out.later hb8 HX1.out.lt
        have HO8 : Hid (GOwn (w3.alloc (.cells #[.int .i64 b0, .int .i64 m1] 24)) w.heap.size _ out) := HO1.out.later hb8
        have HS8 : Hid (w.heap.size ≤ (w3.alloc (.cells #[.int .i64 b0, .int .i64 m1] 24)).heap.size) := HB8.out.size
        clear hb8 HB1 HX1 HO1
        go_upto_region 8 with (at_builtin; refine wpList_app_rngs rfl _ _ rfl w.heap.size _ out rfl HO8.out (some ⟨w3.heap.size, 0, none⟩) 1 [(⟨b0, m1⟩ : Rg)] 1 rfl rfl HLi.out (by simp) (Nat.le_refl _) (by simp; omega) HS8.out ?_; intro v4 w4 hown4 hgrow4)
        have HB4 : Hid (Below w.heap.size w w4) := HB8.out.grown hgrow4 HS8.out (fun q hq => (HO8.out.lt q hq).1)
        have HX4 : Hid (RgAt w4 g d) := HX8.out.grown hgrow4 (fun e => HNe.out g e rfl)
        have HO4 : Hid _ := hown4
        clear hown4 hgrow4 x0 x1 HO8 HX8 HB8 HLi HS8 HNe
        obtain ⟨x0, x1⟩ := HX4.out.cells
        go_wp2
        go_roundw
        case rel => exact ⟨k + 1, _, d.t + 1, by omega, by go_num, rfl, by omega, by omega, HQ2, by simp; omega, HO4.out, HB4.out⟩
        case measure => simp [intOf]; omega
      · have hbb : decide (b0 < d.f) = false := decide_eq_false hbf
        have HQ2 : Hid (RS = out ++ SpanMath.gaps (d.t + 1) (ds.drop (k + 1))) := by
          show _ = _; rw [HQ.out, HSk.out, if_neg hbf, List.nil_append]
        clear HQ HSk HNe
        go_wp2
        go_roundw
        case rel => exact ⟨k + 1, _, d.t + 1, by omega, by go_num, rfl, by omega, by omega, HQ2, by omega, HO1.out, HB1.out⟩
        case measure => simp [intOf]; omega
    · have hkk : k = n := by omega
      have hdk : decide ((k : Int) < (n : Int)) = false := by simp; omega
      subst hkk
      have HEb := HE.out b0
      by_cases hbm : b0 ≤ 1099511627775
      · have HQ2 : Hid (RS = out ++ [⟨b0, 1099511627775⟩]) := by show _ = _; rw [HQ.out, HEb, if_pos hbm]
        clear HQ HEb HE HSt HO hkn
        go_upto_region 11 with (fail)
        have HLi : Hid (GRow (wr.alloc (.cells #[.int .i64 b0, .int .i64 1099511627775] 24)) (some ⟨wr.heap.size, 0, none⟩) [(⟨b0, 1099511627775⟩ : Rg)]) := lit_rngs wr [(⟨b0, 1099511627775⟩ : Rg)] rfl
        have hb8 : Below wr.heap.size wr (wr.alloc (.cells #[.int .i64 b0, .int .i64 1099511627775] 24)) := (Below.refl _ _).alloc (Nat.le_refl _) _
        have HB8 : Hid (Below w.heap.size w (wr.alloc (.cells #[.int .i64 b0, .int .i64 1099511627775] 24))) := HB.out.trans (hb8.mono HB.out.size)
        have HO8 : Hid (GOwn (wr.alloc (.cells #[.int .i64 b0, .int .i64 1099511627775] 24)) w.heap.size _ out) := HOw.out.later hb8
        have HS8 : Hid (w.heap.size ≤ (wr.alloc (.cells #[.int .i64 b0, .int .i64 1099511627775] 24)).heap.size) := HB8.out.size
        clear hb8 HB HOw
        go_upto_region 12 with (at_builtin; refine wpList_app_rngs rfl _ _ rfl w.heap.size _ out rfl HO8.out (some ⟨wr.heap.size, 0, none⟩) 1 [(⟨b0, 1099511627775⟩ : Rg)] 1 rfl rfl HLi.out (by simp) (Nat.le_refl _) (by simp; omega) HS8.out ?_; intro v4 w4 hown4 hgrow4)
        have HB4 : Hid (Below w.heap.size w w4) := HB8.out.grown hgrow4 HS8.out (fun q hq => (HO8.out.lt q hq).1)
        have HO4 : Hid _ := hown4
        clear hown4 hgrow4
        go_wp2
        go_ret
        exact ⟨_, rfl, by rw [HQ2.out]; exact HO4.out, HB4.out⟩
      · have hbb : decide (b0 ≤ 1099511627775) = false := decide_eq_false hbm
        have HQ2 : Hid (RS = out) := by show _ = _; rw [HQ.out, HEb, if_neg hbm, List.append_nil]
        clear HQ HEb HE HSt HO hkn
        go_wp2
        go_ret
        exact ⟨_, rfl, by rw [HQ2.out]; exact HOw.out, HB.out⟩
end Go.Proofs.Ytnkjfenibgiaaaa

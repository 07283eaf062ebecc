/-
  Walk of newsreelref1.SpanCount.
-/
import Derived.Test.YtnkjfenibgiaaaaFnSpanA
namespace Go.Proofs.Ytnkjfenibgiaaaa
open Go.RowKit NumMath
open SpanMath (Rg)
set_option maxRecDepth 100000
set_option linter.unusedVariables false
set_option linter.unusedSimpArgs false

set_option maxHeartbeats 8000000 in
theorem refSpanCount_any (a : Option Addr) (ds : List Rg) (cap : Nat) (w : World) (hr : GRow w a ds) (hc : ds.length ≤ cap) (hm : cap ≤ maxLen) (hf : ∀ r ∈ ds, SpanMath.Fit r) :
    Calls Try.prog 15 #[.slice a ds.length cap] w fun e w' => e = .returned (.int .i64 (SpanMath.count ds)) ∧ Below w.heap.size w w' := by
  have HRi : Hid (∀ w', Below w.heap.size w w' → _) := fun w' (hB : Below w.heap.size w w') => refSpanRight_any a ds cap w' (hr.later hB) hc hm hf
  unfold maxLen at hm
  cases hq : SpanMath.right ds with
  | false =>
    rw [hq] at HRi
    have HN : Hid (SpanMath.count ds = 0) := by show _ = _; unfold SpanMath.count; rw [if_neg (by rw [hq]; simp)]
    rw [HN.out]
    have hl : 0 < ds.length := by
      cases ds with
      | nil => simp [SpanMath.right, SpanMath.rightTo] at hq
      | cons x t => simp
    obtain ⟨m, hm2⟩ : ∃ m, m = ds.length := ⟨_, rfl⟩
    rw [← hm2] at hc HRi hl ⊢
    have hmi : (0 : Int) < (m : Int) := by omega
    clear hr hq hf hm2
    go_enter Try.func15, Try.ntmps15
    go_wp2
    refine wp_loop_rounds 1 ?_
    rw [rounds_succ]
    go_wp2_with fail
    refine Calls.mono (HRi.out _ (Below.refl _ _)) ?_
    rintro e w1 ⟨rfl, hb1⟩
    have HB1 : Hid _ := hb1
    clear hb1
    go_wp2
    go_ret
    exact ⟨rfl, HB1.out⟩
  | true =>
    rw [hq] at HRi
    have hR := (SpanMath.right_iff ds).1 hq
    have HC : Hid (∀ k, k < ds.length → ∀ w', Below w.heap.size w w' → ∃ b off, a = some ⟨b, off, none⟩ ∧ w'.cell? ⟨b, off + k * 2, none⟩ = some (.int .i64 (ds[k]?.getD SpanMath.zero).f) ∧ w'.cell? ⟨b, off + k * 2 + 1, none⟩ = some (.int .i64 (ds[k]?.getD SpanMath.zero).t)) := fun k hk w' hB => by
      obtain ⟨b, off, ha, _⟩ := (hr.later hB).at (by omega)
      subst ha
      exact ⟨b, off, rfl, GRow.cells (hr.later hB) hk⟩
    have HF : Hid (SpanMath.count ds = SpanMath.sum (ds.take ds.length)) := by show _ = _; unfold SpanMath.count; rw [if_pos hq, List.take_of_length_le (Nat.le_refl _)]
    have HS : Hid (∀ k, k < ds.length → SpanMath.sum (ds.take (k + 1)) = SpanMath.sum (ds.take k) + ((ds[k]?.getD SpanMath.zero).t - (ds[k]?.getD SpanMath.zero).f + 1)) := fun k hk => by
      rw [List.take_succ_eq_append_getElem hk, SpanMath.sum_snoc]; simp [hk]
    have HL : Hid (∀ k, 0 ≤ SpanMath.sum (ds.take k) ∧ SpanMath.sum (ds.take k) ≤ 1099511627775) := fun k => SpanMath.sum_le (hR.take k)
    have HO : Hid (∀ k, k < ds.length → 1 ≤ (ds[k]?.getD SpanMath.zero).f ∧ (ds[k]?.getD SpanMath.zero).t ≤ 1099511627775 ∧ (ds[k]?.getD SpanMath.zero).f ≤ (ds[k]?.getD SpanMath.zero).t) := fun k hk => by
      rw [List.getElem?_eq_getElem hk]; exact SpanMath.ok_iff.1 (hR.1 _ (List.getElem_mem hk))
    obtain ⟨m, hm2⟩ : ∃ m, m = ds.length := ⟨_, rfl⟩
    rw [← hm2] at hc HRi HC HF HS HO ⊢
    generalize SpanMath.count ds = C at *
    clear hm2 hr hq hf hR
    go_enter Try.func15, Try.ntmps15
    go_wp2
    go_loopw [3, 4] (fun s i wr => ∃ k : Nat, k ≤ m ∧ i = .int .i64 k ∧ s = .int .i64 (SpanMath.sum (ds.take k)) ∧ Below w.heap.size w wr) (fun _ i _ => m - (intOf i).toNat)
    case atStart => exact ⟨0, by omega, rfl, by simp [SpanMath.sum], Below.refl _ _⟩
    case round =>
      obtain ⟨k, hk, rfl, rfl, hB⟩ := hrel
      have HB : Hid (Below w.heap.size w wr) := hB
      clear hB
      by_cases hkn : k < m
      · have hki : (k : Int) < (m : Int) := by omega
        have hkc : (k : Int) < (cap : Int) := by omega
        have HS2 : Hid _ := HS.out k hkn
        have hs1 := HL.out k
        have hs2 := HL.out (k + 1)
        rw [HS2.out] at hs2
        have hok := HO.out k hkn
        have HC2 : Hid _ := HC.out k hkn
        generalize SpanMath.sum (ds.take k) = s at *
        generalize ds[k]?.getD SpanMath.zero = d at *
        have e1 : IntKind.i64.wrap (d.t - d.f) = d.t - d.f := by rw [IntKind.wrap_i64]; omega
        have e2 : IntKind.i64.wrap (d.t - d.f + 1) = d.t - d.f + 1 := by rw [IntKind.wrap_i64]; omega
        have e3 : IntKind.i64.wrap (s + (d.t - d.f + 1)) = s + (d.t - d.f + 1) := by rw [IntKind.wrap_i64]; omega
        go_wp2_with fail
        refine Calls.mono (HRi.out _ HB.out) ?_
        rintro e w1 ⟨rfl, hb1⟩
        have HB1 : Hid (Below w.heap.size w w1) := HB.out.trans (hb1.mono HB.out.size)
        clear hb1 HB
        obtain ⟨b, off, rfl, p0, p1⟩ := HC2.out w1 HB1.out
        go_upto_region 5 with (fail)
        have hne : Nonempty (Grown1 w1) := ⟨⟨w1, Below.refl _ _⟩⟩
        have p0' := fun u : Grown1 w1 => grown1_cell p0 u
        have p1' := fun u : Grown1 w1 => grown1_cell p1 u
        clear p0 p1
        (try simp only [Act.put])
        refine wp_region_grow (by kernel_rfl) (by kernel_rfl) ?_
        repeat (go_big_quiet_step (fail))
        refine wpQuiet_nil ?_
        intro _ hw'
        obtain ⟨n1, hw''⟩ := hw'
        subst hw''
        have HB7 : Hid (Below w.heap.size w n1.w) := HB1.out.trans (n1.below.mono HB1.out.size)
        clear p0' p1' HB1 e1 e2 e3
        generalize n1.w = u7 at *
        clear hne n1
        go_wp2
        go_roundw
        case rel => exact ⟨k + 1, by omega, by go_num, by rw [HS2.out], HB7.out⟩
        case measure => simp [intOf]; omega
      · have hkk : k = m := by omega
        have hdk : decide ((k : Int) < (m : Int)) = false := by simp; omega
        subst hkk
        rw [← HF.out]
        clear hkn
        go_wp2
        go_ret
        exact ⟨rfl, HB.out⟩
end Go.Proofs.Ytnkjfenibgiaaaa

/-
  Walks of newsreelref4.fold and Fold.
-/
import Derived.Test.YtpffjeoiacaihaaDoorFnRefTop
import Derived.Test.YtpffjeoiacaihaaDoorFnLeafO
namespace Go.Proofs.YtpffjeoiacaihaaDoor
open Go.RowKit NumMath
set_option maxRecDepth 100000
set_option linter.unusedVariables false
set_option linter.unusedSimpArgs false

/-- The first k made small. -/
def lowTo (R : List Nat) (k : Nat) : List Nat := (R.take k).map TxtMath.low ++ R.drop k
theorem lowTo_len (R : List Nat) (k : Nat) : (lowTo R k).length = R.length := by
  unfold lowTo; simp; omega
theorem lowTo_zero (R : List Nat) : lowTo R 0 = R := by simp [lowTo]
theorem lowTo_all (R : List Nat) (k : Nat) (h : R.length ≤ k) : lowTo R k = R.map TxtMath.low := by
  unfold lowTo; rw [List.take_of_length_le h, List.drop_eq_nil_of_le h]; simp
theorem lowTo_get (R : List Nat) (k : Nat) (h : k < R.length) : (lowTo R k)[k]? = R[k]? := by
  unfold lowTo
  rw [List.getElem?_append_right (by simp; omega)]
  simp
  congr 1
  omega
theorem lowTo_succ (R : List Nat) (k r : Nat) (h : R[k]? = some r) : lowTo R (k + 1) = (lowTo R k).set k (TxtMath.low r) := by
  obtain ⟨hk, hr⟩ := List.getElem?_eq_some_iff.1 h
  unfold lowTo
  have hl : ((R.take k).map TxtMath.low).length = k := by simp; omega
  rw [List.set_append, hl, if_neg (by omega), Nat.sub_self, List.take_succ_eq_append_getElem hk, List.drop_eq_getElem_cons hk, hr]
  simp
theorem iv_set (l : List Nat) (k r : Nat) : iv (l.set k r) = (iv l).set k (.int .i64 (r : Int)) := by simp [iv, List.map_set]

set_option maxRecDepth 100000 in
set_option maxHeartbeats 2000000 in
theorem refFoldR_any (l : List Nat) (w : World) (hb : ∀ c ∈ l, c < 256) (hm : l.length ≤ 17592186044000) :
    Calls Tryd.prog 58 #[.string (strN l)] w fun e w' => ∃ v, e = .returned v ∧ Own w' w.heap.size 3 v (iv (TxtMath.foldR l)) ∧ Below w.heap.size w w' := by
  have HR : Hid (∀ w, _) := fun w => refRunes_any l w hb hm
  have HQ : Hid (TxtMath.foldR l = (TxtMath.runes l).map TxtMath.low) := rfl
  have hrl := TxtMath.runes_len_le l
  have HV : Hid _ := runes_le l
  generalize TxtMath.runes l = R at *
  go_enter Tryd.func58, Tryd.ntmps58
  go_wp2_with fail
  refine Calls.mono (HR.out _) ?_
  rintro e w1 ⟨v1, rfl, ho1, hb1⟩
  have HB1 : Hid _ := hb1
  rcases ho1.2 with ⟨h2, h3⟩ | ⟨g, cap, cur, hv, hg, hcur, h5⟩
  · rw [iv_len] at h3
    have HE : Hid (R = []) := List.eq_nil_of_length_eq_zero h3
    have HO : Hid _ := ho1
    subst h2
    clear ho1 hb1 h3
    go_wp2
    refine wp_loop_rounds 1 ?_
    rw [rounds_succ]
    go_wp2
    go_ret
    refine ⟨_, rfl, ?_, HB1.out⟩
    rw [HQ.out, HE.out]
    exact Own.nil _ _ _
  · subst hv
    obtain ⟨n, hn⟩ : ∃ n, n = R.length := ⟨_, rfl⟩
    have HN : Hid _ := hn
    rw [iv_len, ← hn] at h5
    have HO1 : Hid (Own w1 w.heap.size 3 (.slice (some ⟨g, 0, none⟩) n cap) (iv (lowTo R 0))) := by
      show Own _ _ _ _ _
      rw [lowTo_zero, hn]
      have := ho1
      rw [iv_len] at this
      exact this
    have hnc : n ≤ cap := by omega
    have hcm : cap ≤ 9223372036854775807 := by have := h5; unfold maxLen at this; omega
    rw [iv_len, ← hn]
    have hrl' : n ≤ l.length := by omega
    clear ho1 hb1 hn hcur h5 hrl
    go_wp2
    go_loopw [4] (fun i wr => ∃ k : Nat, k ≤ n ∧ i = .int .i64 (k : Int) ∧ Own wr w.heap.size 3 (.slice (some ⟨g, 0, none⟩) n cap) (iv (lowTo R k)) ∧ Below w.heap.size w wr) (fun i _ => n - (intOf i).toNat)
    case atStart => exact ⟨0, by omega, rfl, HO1.out, HB1.out⟩
    case round =>
      clear HO1 HB1
      obtain ⟨k, hk, rfl, hown, hbw⟩ := hrel
      have HO : Hid _ := hown
      have HB : Hid _ := hbw
      by_cases hlt : k < n
      · have hkl : k < R.length := by rw [← HN.out]; exact hlt
        obtain ⟨r, hrk⟩ : ∃ r, R[k]? = some r := ⟨R[k], List.getElem?_eq_getElem hkl⟩
        have hr := HV.out r (List.mem_of_getElem? hrk)
        have hln : (iv (lowTo R k)).length = n := by rw [iv_len, lowTo_len, HN.out]
        have hcx : wr.cell? ⟨g, k, none⟩ = some (.int .i64 (r : Int)) := by
          have h1 := hown
          unfold Own at h1
          rw [hln] at h1
          rw [World.ownsRow.cellAt h1 k (by omega)]
          exact iv_get (by rw [lowTo_get R k hkl]; exact hrk)
        have hfz : wr.frozen? ⟨g, k, none⟩ = false := by
          have h1 := hown
          unfold Own at h1
          rw [hln] at h1
          exact World.ownsRow.frozenAt h1 k
        have HO2 : Hid (Own (wr.setCell ⟨g, k, none⟩ (.int .i64 ((TxtMath.low r : Nat) : Int))) w.heap.size 3 (.slice (some ⟨g, 0, none⟩) n cap) (iv (lowTo R (k + 1)))) := by
          show Own _ _ _ _ _
          have h1 := hown
          unfold Own at h1 ⊢
          rw [hln] at h1
          rw [iv_len, lowTo_len, ← HN.out, lowTo_succ R k r hrk, iv_set]
          exact (World.ownsRow.stored h1 k _).1
        have HB2 : Hid (Below w.heap.size w (wr.setCell ⟨g, k, none⟩ (.int .i64 ((TxtMath.low r : Nat) : Int)))) := hbw.setCell (p := ⟨g, k, none⟩) hg _
        clear hown hbw hrk hln
        go_wp2_with (go_at_call 71; refine (low_any r _ hr).mono ?_; rintro e w2 ⟨rfl, rfl⟩)
        go_roundw
        case rel => exact ⟨k + 1, by omega, by simp, HO2.out, HB2.out⟩
        case measure => simp [intOf]; omega
      · clear hown hbw
        have e : k = n := by omega
        subst e
        go_wp2
        go_ret
        refine ⟨_, rfl, ?_, HB.out⟩
        rw [HQ.out, ← lowTo_all R k (by rw [← HN.out]; omega)]
        exact HO.out

set_option maxRecDepth 100000 in
theorem refFold_any (l : List Nat) (w : World) (hb : ∀ c ∈ l, c < 256) (hm : l.length ≤ 17592186044000) :
    Calls Tryd.prog 37 #[.string (strN l)] w fun e w' => e = .returned (.string (strN (TxtMath.foldB l))) ∧ Below w.heap.size w w' := by
  have HR : Hid (∀ w, _) := fun w => refFoldR_any l w hb hm
  have HQ : Hid (TxtMath.foldB l = TxtMath.encs (TxtMath.foldR l)) := rfl
  have hrl : (TxtMath.foldR l).length ≤ l.length := by unfold TxtMath.foldR; rw [List.length_map]; exact TxtMath.runes_len_le l
  have HV : Hid _ := TxtMath.fold_ok l
  generalize TxtMath.foldR l = R at *
  go_enter Tryd.func37, Tryd.ntmps37
  go_wp2_with fail
  refine Calls.mono (HR.out _) ?_
  rintro e w1 ⟨v1, rfl, ho1, hb1⟩
  obtain ⟨a1, c1, rfl, hc1, hm1, _, hr1⟩ := ho1.shape
  rw [iv_len] at hc1 ⊢
  have HB1 : Hid _ := hb1
  have HO : Hid _ := of_any a1 c1 R w1 hr1 HV.out hc1 hm1 (by omega)
  clear ho1 hb1 hr1
  go_wp2_with fail
  refine Calls.mono HO.out ?_
  rintro e w3 ⟨rfl, hb3⟩
  have HB3 : Hid _ := HB1.out.trans (hb3.mono HB1.out.size)
  clear hb3
  go_wp2
  go_ret
  rw [HQ.out]
  exact ⟨rfl, HB3.out⟩
end Go.Proofs.YtpffjeoiacaihaaDoor

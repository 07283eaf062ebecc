/-
  Walk of newsreelref4.clean.
-/
import Derived.Test.YteockpllnhjooaaGreatDoorValKit
import Derived.Test.YteockpllnhjooaaGreatDoorFnLeafW
namespace Go.Proofs.YteockpllnhjooaaGreatDoor
open Go.RowKit NumMath
set_option maxRecDepth 100000
set_option linter.unusedVariables false
set_option linter.unusedSimpArgs false


set_option maxRecDepth 100000 in
set_option maxHeartbeats 4000000 in
theorem refClean_any (ao : Option Addr) (cap : Nat) (l : List Nat) (w : World) (hr : VRow w ao (iv l)) (hv : ∀ r ∈ l, r ≤ 1114111) (hc : l.length ≤ cap) (hm : cap ≤ maxLen) (hl : l.length ≤ 17592186044000) :
    Calls Tryz.prog 33 #[.slice ao l.length cap] w fun e w' => ∃ v, e = .returned v ∧ Own w' w.heap.size 3 v (iv (TxtMath.clean l)) ∧ Below w.heap.size w w' := by
  unfold maxLen at hm
  obtain ⟨n, hn⟩ : ∃ n, n = l.length := ⟨_, rfl⟩
  have HN : Hid _ := hn
  have HR : Hid _ := hr
  have HV : Hid _ := hv
  have hcl := TxtMath.clean_len l
  rw [← hn] at hc hl hcl ⊢
  clear hn hr hv
  go_enter Tryz.func33, Tryz.ntmps33
  go_wp2
  go_loopw [3, 4, 5] (fun out g i wr => ∃ (k : Nat) (gap : Bool) (acc : List Nat), k ≤ n ∧ i = .int .i64 (k : Int) ∧ g = .bool gap ∧ Own wr w.heap.size 3 out (iv acc) ∧ Below w.heap.size w wr ∧ acc ++ TxtMath.cleanGo gap (!acc.isEmpty) (l.drop k) = TxtMath.clean l) (fun _ _ i _ => n - (intOf i).toNat)
  case atStart => exact ⟨0, false, [], by omega, rfl, rfl, Own.nil _ _ _, Below.refl _ _, by simp [TxtMath.clean]⟩
  case round =>
    obtain ⟨k, gap, acc, hk, rfl, rfl, hown, hbw, hacc⟩ := hrel
    have hal : acc.length ≤ n := by
      have h1 := congrArg List.length hacc
      simp at h1; omega
    have HA : Hid _ := hacc
    have HB : Hid _ := hbw
    have HO : Hid _ := hown
    have hg1 : w.heap.size ≤ wr.heap.size := hbw.size
    by_cases hlt : k < n
    · have hkl : k < l.length := by rw [← HN.out]; exact hlt
      obtain ⟨b, off, rfl, hcell⟩ := VRow.at HR.out (k := k) (by rw [iv_len]; exact hkl)
      obtain ⟨r, hrk⟩ : ∃ r, l[k]? = some r := ⟨l[k], List.getElem?_eq_getElem hkl⟩
      have HC0 : Hid _ := hcell k _ (iv_get hrk)
      have hcx := cell_later HC0.out hbw
      have hr := HV.out r (List.mem_of_getElem? hrk)
      have hdr : l.drop k = r :: l.drop (k + 1) := by
        obtain ⟨h1, h2⟩ := List.getElem?_eq_some_iff.1 hrk
        rw [← h2]; exact List.drop_eq_getElem_cons hkl
      have HD : Hid _ := hdr
      obtain ⟨ao', cp, hov, hc1, hc2, hnil, hrow⟩ := Own.shape hown
      rw [iv_len] at hov hc1
      clear hcell hrk hbw hacc hdr hrow hown
      subst hov
      cases hw : TxtMath.white r with
      | true =>
        go_wp2_with (go_at_call 63; refine (white_any r _ hr).mono ?_; rintro e w2 ⟨rfl, rfl⟩)
        go_roundw
        case rel =>
          refine ⟨k + 1, true, acc, by omega, by simp, rfl, HO.out, HB.out, ?_⟩
          rw [← HA.out, HD.out, TxtMath.cleanGo, if_pos hw]
        case measure => simp [intOf]; omega
      | false =>
        cases hbp : TxtMath.bare r with
        | true =>
          go_wp2_with (first | (go_at_call 63; refine (white_any r _ hr).mono ?_; rintro e w2 ⟨rfl, rfl⟩) | (go_at_call 64; refine (bare_any r _ hr).mono ?_; rintro e w2 ⟨rfl, rfl⟩))
          go_roundw
          case rel =>
            refine ⟨k + 1, gap, acc, by omega, by simp, rfl, HO.out, HB.out, ?_⟩
            rw [← HA.out, HD.out, TxtMath.cleanGo, if_neg (by rw [hw]; decide), if_pos hbp]
          case measure => simp [intOf]; omega
        | false =>
          have HST : Hid (∀ g e, TxtMath.cleanGo g e (r :: l.drop (k + 1)) = (if (g && e) = true then [32] else []) ++ r :: TxtMath.cleanGo false true (l.drop (k + 1))) := by
            intro g e; rw [TxtMath.cleanGo, if_neg (by rw [hw]; decide), if_neg (by rw [hbp]; decide)]
          by_cases hg : gap = true ∧ 0 < acc.length
          · obtain ⟨rfl, hpos⟩ := hg
            go_wp2_with (first | (go_at_call 63; refine (white_any r _ hr).mono ?_; rintro e w2 ⟨rfl, rfl⟩) | (go_at_call 64; refine (bare_any r _ hr).mono ?_; rintro e w2 ⟨rfl, rfl⟩) | (at_builtin; refine wpList_app_int rfl _ _ rfl w.heap.size _ (iv acc) (.int .i64 32) rfl (Own.alloc HO.out _) _ rfl (by simp) rfl (by rw [iv_len]; simp; omega) (by simp; omega) ?_; intro v1 w3 hown1 hgrow1; have HO1 : Hid (Own w3 w.heap.size 3 v1 (iv (acc ++ [32]))) := (by show Own _ _ _ _ _; rw [iv_append]; exact hown1); have HB1 : Hid (Below w.heap.size w w3) := Own.below (Own.alloc HO.out _) hgrow1 (HB.out.alloc hg1 _) (by simp; omega); have hcx3 := cell_later HC0.out HB1.out; have hg3 := HB1.out.size; clear hown1 hgrow1) | (at_builtin; refine wpList_app_int rfl _ _ rfl w.heap.size _ (iv (acc ++ [32])) (.int .i64 (r : Int)) rfl (Own.alloc HO1.out _) _ rfl (by simp) rfl (by rw [iv_len]; simp; omega) (by simp; omega) ?_; intro v2 w4 hown2 hgrow2; have HO2 : Hid (Own w4 w.heap.size 3 v2 (iv (acc ++ [32] ++ [r]))) := (by show Own _ _ _ _ _; rw [iv_append (acc ++ [32])]; exact hown2); have HB2 : Hid (Below w.heap.size w w4) := Own.below (Own.alloc HO1.out _) hgrow2 (HB1.out.alloc hg3 _) (by simp; omega); clear hown2 hgrow2))
            go_roundw
            case rel =>
              refine ⟨k + 1, false, acc ++ [32] ++ [r], by omega, by simp, rfl, HO2.out, HB2.out, ?_⟩
              have e : acc.isEmpty = false := by cases acc with | nil => simp at hpos | cons _ _ => rfl
              have e2 : (acc ++ [32] ++ [r]).isEmpty = false := by cases acc <;> rfl
              rw [← HA.out, HD.out, HST.out, e, e2]; simp
            case measure => simp [intOf]; omega
          · have Hg : Hid (((gap && !acc.isEmpty) = true) = False) := by
              show _ = False
              apply eq_false
              intro h
              simp at h
              exact hg ⟨h.1, List.length_pos_iff.2 h.2⟩
            cases gap with
            | false =>
              go_wp2_with (first | (go_at_call 63; refine (white_any r _ hr).mono ?_; rintro e w2 ⟨rfl, rfl⟩) | (go_at_call 64; refine (bare_any r _ hr).mono ?_; rintro e w2 ⟨rfl, rfl⟩) | (at_builtin; refine wpList_app_int rfl _ _ rfl w.heap.size _ (iv acc) (.int .i64 (r : Int)) rfl (Own.alloc HO.out _) _ rfl (by simp) rfl (by rw [iv_len]; simp; omega) (by simp; omega) ?_; intro v2 w4 hown2 hgrow2; have HO2 : Hid (Own w4 w.heap.size 3 v2 (iv (acc ++ [r]))) := (by show Own _ _ _ _ _; rw [iv_append]; exact hown2); have HB2 : Hid (Below w.heap.size w w4) := Own.below (Own.alloc HO.out _) hgrow2 (HB.out.alloc hg1 _) (by simp; omega); clear hown2 hgrow2))
              go_roundw
              case rel =>
                refine ⟨k + 1, false, acc ++ [r], by omega, by simp, rfl, HO2.out, HB2.out, ?_⟩
                have e2 : (acc ++ [r]).isEmpty = false := by cases acc <;> rfl
                rw [← HA.out, HD.out, HST.out, e2]; simp
              case measure => simp [intOf]; omega
            | true =>
              have hz : acc.length ≤ 0 := by
                rcases Nat.eq_zero_or_pos acc.length with h | h
                · omega
                · exact absurd ⟨rfl, h⟩ hg
              clear hg
              go_wp2_with (first | (go_at_call 63; refine (white_any r _ hr).mono ?_; rintro e w2 ⟨rfl, rfl⟩) | (go_at_call 64; refine (bare_any r _ hr).mono ?_; rintro e w2 ⟨rfl, rfl⟩) | (at_builtin; refine wpList_app_int rfl _ _ rfl w.heap.size _ (iv acc) (.int .i64 (r : Int)) rfl (Own.alloc HO.out _) _ rfl (by simp) rfl (by rw [iv_len]; simp; omega) (by simp; omega) ?_; intro v2 w4 hown2 hgrow2; have HO2 : Hid (Own w4 w.heap.size 3 v2 (iv (acc ++ [r]))) := (by show Own _ _ _ _ _; rw [iv_append]; exact hown2); have HB2 : Hid (Below w.heap.size w w4) := Own.below (Own.alloc HO.out _) hgrow2 (HB.out.alloc hg1 _) (by simp; omega); clear hown2 hgrow2))
              go_roundw
              case rel =>
                refine ⟨k + 1, false, acc ++ [r], by omega, by simp, rfl, HO2.out, HB2.out, ?_⟩
                have e2 : (acc ++ [r]).isEmpty = false := by cases acc <;> rfl
                rw [← HA.out, HD.out, HST.out, e2, if_neg (by rw [Hg.out]; exact id)]; simp
              case measure => simp [intOf]; omega
    · clear hbw hacc hown
      have e : k = n := by omega
      subst e
      go_wp2
      go_ret
      have h0 : l.drop k = [] := List.drop_eq_nil_of_le (by rw [← HN.out]; omega)
      have := HA.out
      rw [h0] at this
      simp [TxtMath.cleanGo] at this
      rw [← this]
      exact ⟨_, rfl, HO.out, HB.out⟩
end Go.Proofs.YteockpllnhjooaaGreatDoor

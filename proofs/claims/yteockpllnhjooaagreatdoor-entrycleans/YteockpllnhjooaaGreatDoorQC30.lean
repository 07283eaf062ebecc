/-
  FnRefE.
-/
import Derived.Test.YteockpllnhjooaaGreatDoorQC29
namespace Go.Proofs.YteockpllnhjooaaGreatDoor
open Go.RowKit NumMath
open AddrMath (pre post is No colon lower way dots combine finish parse http https isHost isPort value usual Sch Parts5 schemeOf)
set_option maxRecDepth 100000
set_option linter.unusedVariables false
set_option linter.unusedSimpArgs false

set_option maxRecDepth 100000 in
set_option maxHeartbeats 16000000 in
theorem refParse_80 (u sch h po pa qu fr : List Nat) (w : World) (hu : lower u = sch) (hsch : sch = http) (P : Parts5 h po pa qu fr) (hb : ∀ c ∈ u ++ (colon ++ (h ++ (po ++ (pa ++ (qu ++ fr))))), c < 256) (hm : (u ++ (colon ++ (h ++ (po ++ (pa ++ (qu ++ fr)))))).length ≤ 10000) :
    Calls Tryz.prog 30 #[.string (strN (u ++ (colon ++ (h ++ (po ++ (pa ++ (qu ++ fr)))))))] w fun e w' => e = .returned (.tuple #[.string (strN (finish (combine sch h po pa qu)).1), .int .i64 (((finish (combine sch h po pa qu)).2 : Nat) : Int)]) ∧ Below w.heap.size w w' := by
  have hS : Sch sch := .inl hsch
  have hk1 : ((strN sch).toList == [104, 116, 116, 112]) = true := by rw [eq_lit http [104, 116, 116, 112] rfl (by rw [hsch]; decide) (by decide), hsch]; decide
  have hk2 : ((strN sch).toList == [104, 116, 116, 112, 115]) = false := by rw [eq_lit https [104, 116, 116, 112, 115] rfl (by rw [hsch]; decide) (by decide), hsch]; decide
  have HUS : Hid (usualN sch = 80) := by show _ = _; rw [hsch]; rfl
  obtain ⟨s, hs⟩ : ∃ s, s = u ++ (colon ++ (h ++ (po ++ (pa ++ (qu ++ fr))))) := ⟨_, rfl⟩
  obtain ⟨t, ht⟩ : ∃ t, t = h ++ (po ++ (pa ++ (qu ++ fr))) := ⟨_, rfl⟩
  obtain ⟨t0, ht0⟩ : ∃ t, t = h ++ (po ++ (pa ++ qu)) := ⟨_, rfl⟩
  obtain ⟨t1, ht1⟩ : ∃ t, t = po ++ (pa ++ qu) := ⟨_, rfl⟩
  obtain ⟨t2, ht2⟩ : ∃ t, t = pa ++ qu := ⟨_, rfl⟩
  rw [← hs] at hb hm ⊢
  have hsb : ∀ c, c ∈ u ∨ c ∈ h ∨ c ∈ po ∨ c ∈ pa ∨ c ∈ qu ∨ c ∈ fr → c < 256 := by
    intro c hc
    apply hb
    rw [hs]
    simp only [List.mem_append]
    rcases hc with h | h | h | h | h | h <;> simp [h]
  have hub : ∀ c ∈ u, c < 256 := fun c hc => hsb c (.inl hc)
  have hhb : ∀ c ∈ h, c < 256 := fun c hc => hsb c (.inr (.inl hc))
  have hpob : ∀ c ∈ po, c < 256 := fun c hc => hsb c (.inr (.inr (.inl hc)))
  have hpab : ∀ c ∈ pa, c < 256 := fun c hc => hsb c (.inr (.inr (.inr (.inl hc))))
  have hqub : ∀ c ∈ qu, c < 256 := fun c hc => hsb c (.inr (.inr (.inr (.inr (.inl hc)))))
  have hfrb : ∀ c ∈ fr, c < 256 := fun c hc => hsb c (.inr (.inr (.inr (.inr (.inr hc)))))
  have ht2b : ∀ c ∈ t2, c < 256 := by rw [ht2]; exact app_lt hpab hqub
  have ht1b : ∀ c ∈ t1, c < 256 := by rw [ht1]; exact app_lt hpob (app_lt hpab hqub)
  have ht0b : ∀ c ∈ t0, c < 256 := by rw [ht0]; exact app_lt hhb (app_lt hpob (app_lt hpab hqub))
  have htb : ∀ c ∈ t, c < 256 := by rw [ht]; exact app_lt hhb (app_lt hpob (app_lt hpab (app_lt hqub hfrb)))
  have hlens : s.length = u.length + 3 + (h.length + (po.length + (pa.length + (qu.length + fr.length)))) := by rw [hs]; simp [colon]; omega
  have hsz := strN_size s
  have hsch5 : sch.length ≤ 5 := by rcases hS with e | e <;> rw [e] <;> decide
  have hul : u.length ≤ 5 := by rw [← AddrMath.lower_len u, hu]; exact hsch5
  have hn58 : No (is 58) u := Sch.no hu hS (by decide)
  -- where the parts stand
  have e1 : (pre (anyOf [58]) s).length = u.length := by rw [anyOf_one, hs]; show (pre (is 58) (u ++ 58 :: _)).length = _; rw [AddrMath.pre_hit (by rfl) _ hn58]
  have HU1 : Hid (∀ w, _) := fun w => upTo_at s [58] u.length hb (by decide) (by omega) (by decide) e1 w
  have hs1 := fun w => slice_to (w := w) s u u.length (by omega) (by rw [hs, List.take_left])
  have HLo1 : Hid (∀ w, _) := fun w => refLower_any u w hub (by omega)
  rw [hu] at HLo1
  have hs2 : ∀ w, (Instr.sliceAt 9 (.string (strN s)) (some (.int .i64 ((u.length : Nat) : Int))) (some (.int .i64 (((u.length : Nat) : Int) + 3))) none).run Tryz.prog w = .ok (.string (strN colon)) w := by
    intro w
    have := run_slice_strN (w := w) s .i64 .i64 u.length (u.length + 3) (by omega) (by omega)
    rw [Nat.add_sub_cancel_left, show (s.drop u.length).take 3 = colon by rw [hs, List.drop_left]; rfl] at this
    exact this
  have hq3 : ((strN colon).toList == [58, 47, 47]) = true := by rw [eq_lit colon [58, 47, 47] rfl (by decide) (by decide)]; simp
  have hs3 : ∀ w, (Instr.sliceAt 9 (.string (strN s)) (some (.int .i64 (((u.length : Nat) : Int) + 3))) none none).run Tryz.prog w = .ok (.string (strN t)) w := by
    intro w
    have := slice_from (w := w) s t (u.length + 3) (by omega) (by rw [hs, ← List.drop_drop, List.drop_left, ht]; rfl)
    rw [show ((u.length + 3 : Nat) : Int) = (u.length : Int) + 3 by omega] at this
    exact this
  have htl : t.length ≤ 10000 := by rw [ht]; simp; omega
  have ht0l : t0.length ≤ 10000 := by rw [ht0]; simp; omega
  have ht1l : t1.length ≤ 10000 := by rw [ht1]; simp; omega
  have ht2l : t2.length ≤ 10000 := by rw [ht2]; simp; omega
  have e2 : (pre (anyOf [35]) t).length = t0.length := by rw [anyOf_one, ht, P.e35, ht0]
  have HU2 : Hid (∀ w, _) := fun w => upTo_at t [35] t0.length htb (by decide) (by omega) (by decide) e2 w
  have hs4 := fun w => slice_to (w := w) t t0 t0.length (by rw [ht, ht0]; simp only [List.length_append]; omega) (by rw [ht, ht0]; have e : h ++ (po ++ (pa ++ (qu ++ fr))) = (h ++ (po ++ (pa ++ qu))) ++ fr := (by simp); rw [e, List.take_left])
  have hEnds : AddrMath.Ends (anyOf [58, 47, 63]) t1 := by
    rw [ht1]
    rcases P.po0 with e | ⟨c, x, e, hc⟩
    · rw [e, List.nil_append]
      rcases P.pa0 with e2 | ⟨c, x, e2, hc⟩
      · rw [e2, List.nil_append]
        rcases P.qu0 with e3 | ⟨c, x, e3, hc⟩
        · rw [e3]; exact AddrMath.Ends.nil _
        · rw [e3]; exact AddrMath.Ends.cons (by have : c = 63 := (by simpa [is] using hc); subst this; decide) _
      · rw [e2]; exact AddrMath.Ends.cons (by have : c = 47 := (by simpa [is] using hc); subst this; decide) _
    · rw [e]; exact AddrMath.Ends.cons (by have : c = 58 := (by simpa [is] using hc); subst this; decide) _
  have e3 : (pre (anyOf [58, 47, 63]) t0).length = h.length := by rw [ht0, ← ht1, AddrMath.pre_ends (No.any3 P.h58 P.h47 P.h63) hEnds]
  have HU3 : Hid (∀ w, _) := fun w => upTo_at t0 [58, 47, 63] h.length ht0b (by decide) (by omega) (by decide) e3 w
  have hs5 := fun w => slice_to (w := w) t0 h h.length (by rw [ht0]; simp) (by rw [ht0, List.take_left])
  have hs6 := fun w => slice_from (w := w) t0 t1 h.length (by rw [ht0]; simp) (by rw [ht0, List.drop_left, ht1])
  have HLo2 : Hid (∀ w, _) := fun w => refLower_any h w hhb (by omega)
  have hHb := AddrMath.lower_lt hhb
  have hHl := AddrMath.lower_len h
  have HHo : Hid (∀ w, _) := fun w => refHost_any (lower h) w hHb (by omega)
  -- path and query
  have e7 : (pre (anyOf [63]) t2).length = pa.length := by rw [anyOf_one, ht2, AddrMath.pre_ends P.pa63 P.qu0]
  have HU7 : Hid (∀ w, _) := fun w => upTo_at t2 [63] pa.length ht2b (by decide) (by omega) (by decide) e7 w
  have hs10 := fun w => slice_to (w := w) t2 pa pa.length (by rw [ht2]; simp) (by rw [ht2, List.take_left])
  have hs11 := fun w => slice_from (w := w) t2 qu pa.length (by rw [ht2]; simp) (by rw [ht2, List.drop_left])
  obtain ⟨b1, b2, z, Z, Q, D, hZl, hQl, hDl, hw1, hw2, hz, hd1, hd2, hX⟩ := way_pack pa qu P.pa0 P.pa63 P.qu0 hpab hqub (by omega) (by omega)
  have HW1 : Hid _ := hw1
  have HW2 : Hid _ := hw2
  have HDt : Hid _ := hd1
  have HDf : Hid _ := hd2
  have hC := comb_pack (sch := sch) (h := h) (po := po) hX
  clear hw1 hw2 hd1 hd2 hX
  have hpa0 : AddrMath.Ends (is 47) pa := P.pa0
  have hqu0 : AddrMath.Ends (is 63) qu := P.qu0
  -- the port
  have hpo0 : AddrMath.Ends (is 58) po := P.po0
  have e8 : (pre (anyOf [47, 63]) t1).length = po.length := by
    have hE2 : AddrMath.Ends (anyOf [47, 63]) (pa ++ qu) := by
      rcases P.pa0 with e2 | ⟨c, x, e2, hc⟩
      · rw [e2, List.nil_append]
        rcases P.qu0 with e3 | ⟨c, x, e3, hc⟩
        · rw [e3]; exact AddrMath.Ends.nil _
        · rw [e3]; exact AddrMath.Ends.cons (by have : c = 63 := (by simpa [is] using hc); subst this; decide) _
      · rw [e2]; exact AddrMath.Ends.cons (by have : c = 47 := (by simpa [is] using hc); subst this; decide) _
    rw [ht1, AddrMath.pre_ends (No.any2 P.po47 P.po63) hE2]
  have HU8 : Hid (∀ w, _) := fun w => upTo_at t1 [47, 63] po.length ht1b (by decide) (by omega) (by decide) e8 w
  have hs8 := fun w => slice_to (w := w) t1 po po.length (by rw [ht1]; simp) (by rw [ht1, List.take_left])
  have hs9 := fun w => slice_from (w := w) t1 t2 po.length (by rw [ht1]; simp) (by rw [ht1, List.drop_left, ht2])
  have hs7 : ∀ p, po = 58 :: p → ∀ w, (Instr.sliceAt 9 (.string (strN t1)) (some (.int .i64 1)) (some (.int .i64 ((po.length : Nat) : Int))) none).run Tryz.prog w = .ok (.string (strN p)) w := by
    intro p hp w
    have := run_slice_strN (w := w) t1 .i64 .i64 1 po.length (by rw [hp]; simp) (by rw [ht1]; simp)
    have e : (t1.drop 1).take (po.length - 1) = p := by rw [ht1, hp]; simp
    rw [e] at this
    exact this
  -- sums
  obtain ⟨F1, hF1⟩ : ∃ F, F = sch ++ colon := ⟨_, rfl⟩
  obtain ⟨F2, hF2⟩ : ∃ F, F = F1 ++ lower h := ⟨_, rfl⟩
  obtain ⟨F3, hF3⟩ : ∃ F, F = F2 ++ po := ⟨_, rfl⟩
  have hl1 : F1.length ≤ 8 := by rw [hF1]; simp [colon]; omega
  have hl2 : F2.length ≤ 10008 := by rw [hF2]; simp; omega
  have hl3 : F3.length ≤ 20008 := by rw [hF3]; simp; omega
  have hc1 : ∀ w, (Op.stringOp BinOp.add (strN sch) ⟨#[58, 47, 47]⟩).run Tryz.prog w = .ok (.string (strN F1)) w := by rw [hF1]; exact sum_strN sch colon (by simp [colon]; omega)
  have hc2 : ∀ w, (Op.stringOp BinOp.add (strN F1) (strN (lower h))).run Tryz.prog w = .ok (.string (strN F2)) w := by rw [hF2]; exact sum_strN F1 (lower h) (by omega)
  have hc3 : ∀ w, (Op.stringOp BinOp.add (strN F2) (strN po)).run Tryz.prog w = .ok (.string (strN F3)) w := by rw [hF3]; exact sum_strN F2 po (by omega)
  rw [← hF1, ← hF2] at hC
  have HC : Hid _ := hC
  have HF3 : Hid (F3 = F2 ++ po) := hF3
  clear hC
  have hpoe : Hid (po.isEmpty = decide (po = [])) := by show _ = _; cases po <;> rfl
  -- the three ways of a port
  have hport : (po = [] ∧ (t1 = [] ∨ ∃ x y, t1 = x :: y ∧ x ≠ 58 ∧ x < 256) ∧ t1 = t2) ∨ (∃ p, po = 58 :: p ∧ ∃ y, t1 = 58 :: y) := by
    rcases P.po0 with e | ⟨c, x, e, hc⟩
    · left
      refine ⟨e, ?_, by rw [ht1, ht2, e]; rfl⟩
      rw [ht1, e, List.nil_append]
      rcases P.pa0 with e2 | ⟨c, x, e2, hc⟩
      · rw [e2, List.nil_append]
        rcases P.qu0 with e3 | ⟨c, x, e3, hc⟩
        · left; exact e3
        · right; exact ⟨c, x, e3, by have : c = 63 := (by simpa [is] using hc); subst this; decide, hqub c (by rw [e3]; simp)⟩
      · right; exact ⟨c, x ++ qu, by rw [e2]; rfl, by have : c = 47 := (by simpa [is] using hc); subst this; decide, hpab c (by rw [e2]; simp)⟩
    · right
      have : c = 58 := by simpa [is] using hc
      subst this
      exact ⟨x, e, x ++ (pa ++ qu), by rw [ht1, e]; rfl⟩
  have hix0 : ∀ x y, t1 = x :: y → ∀ w, (Instr.index 9 (.string (strN t1)) (.int .i64 0)).run Tryz.prog w = .ok (.int .u8 (x : Int)) w := by
    intro x y e w
    have := index_strN t1 ht1b 0 (by rw [e]; simp) .i64 w
    rw [e] at this ⊢
    exact this
  have hqe := eq_lit [] [] rfl ht1b (by decide)
  generalize lower h = H at *
  generalize isHost H = hh at *
  obtain ⟨nu, hnu⟩ : ∃ n, n = u.length := ⟨_, rfl⟩
  obtain ⟨nh, hnh⟩ : ∃ n, n = h.length := ⟨_, rfl⟩
  obtain ⟨n0, hn0⟩ : ∃ n, n = t0.length := ⟨_, rfl⟩
  obtain ⟨np, hnp⟩ : ∃ n, n = po.length := ⟨_, rfl⟩
  obtain ⟨na, hna⟩ : ∃ n, n = pa.length := ⟨_, rfl⟩
  have hlen3 : nu + 3 ≤ s.length := by omega
  rw [← hnu] at HU1 hs1 hs2 hs3 hul
  rw [← hn0] at HU2 hs4 ht0l
  rw [← hnh] at HU3 hs5 hs6
  rw [← hna] at HU7 hs10 hs11
  rw [← hnp] at HU8 hs8 hs9 hs7
  have hsm : nu ≤ 10000 ∧ nh ≤ 10000 ∧ n0 ≤ 10000 ∧ np ≤ 10000 ∧ na ≤ 10000 := by omega
  have hpol : po.length ≤ 10000 := by omega
  clear e1 e2 e3 e7 e8 hEnds hn58 hs ht ht0 hF1 hF2 hF3 hsb hnu hnh hn0 hnp hna hlens hu P hpa0 hsch hqu0 hpo0 hS hHl ht1 ht2 hub hhb hpab hqub hfrb htb ht0b ht2b hHb
  go_enter Tryz.func30, Tryz.ntmps30
  go_wp2_with fail
  refine Calls.mono (HU1.out _) ?_
  rintro e w11 ⟨rfl, hb11⟩
  have HB11 : Hid _ := hb11
  clear hb11
  go_wp2_with fail
  refine Calls.mono (HLo1.out _) ?_
  rintro e w12 ⟨rfl, hb12⟩
  have HB12 : Hid _ := HB11.out.trans (hb12.mono HB11.out.size)
  clear hb12
  go_wp2_with fail
  refine Calls.mono (HU2.out _) ?_
  rintro e w13 ⟨rfl, hb13⟩
  have HB13 : Hid _ := HB12.out.trans (hb13.mono HB12.out.size)
  clear hb13
  go_wp2_with fail
  refine Calls.mono (HU3.out _) ?_
  rintro e w14 ⟨rfl, hb14⟩
  have HB14 : Hid _ := HB13.out.trans (hb14.mono HB13.out.size)
  clear hb14
  go_wp2_with fail
  refine Calls.mono (HLo2.out _) ?_
  rintro e w15 ⟨rfl, hb15⟩
  have HB15 : Hid _ := HB14.out.trans (hb15.mono HB14.out.size)
  clear hb15
  go_wp2_with fail
  refine Calls.mono (HLo2.out _) ?_
  rintro e w16 ⟨rfl, hb16⟩
  have HB16 : Hid _ := HB15.out.trans (hb16.mono HB15.out.size)
  clear hb16
  go_wp2_with fail
  refine Calls.mono (HHo.out _) ?_
  rintro e w17 ⟨rfl, hb17⟩
  have HB17 : Hid _ := HB16.out.trans (hb17.mono HB16.out.size)
  clear hb17
  cases hh with
  | false =>
    have HR : Hid (finish (combine sch h po pa qu) = ([], 25)) := by show _ = _; rw [HC.out]; rfl
    clear hport
    go_wp2
    go_ret2
    rw [HR.out]
    exact ⟨rfl, HB17.out⟩
  | true =>
    rcases hport with ⟨hpo, ht1c, ht12⟩ | ⟨pp, hpo, y1, ht1y⟩
    · have HCmb : Hid (combine sch h po pa qu = if b1 && b2 then some (F2 ++ (D ++ Q)) else none) := by
        show _ = _
        rw [HC.out, hpo]
        simp
      clear hpo HC hs7
      rw [← ht12] at HU7 hs10 hs11
      rcases ht1c with ht1e | ⟨x, y1, ht1e, hx58, hx256⟩
      · rw [decide_eq_true ht1e] at hqe
        clear ht1e ht12 hix0
        have HRn : Hid ((b1 && b2) = false → finish (combine sch h po pa qu) = ([], 25)) := finish_false HCmb.out
        obtain ⟨G1, hG1⟩ : ∃ G, G = F2 ++ D := ⟨_, rfl⟩
        obtain ⟨G2, hG2⟩ : ∃ G, G = G1 ++ Q := ⟨_, rfl⟩
        have hg1 : G1.length ≤ 60000 := by rw [hG1]; simp; omega
        have hg2 : G2.length ≤ 100000 := by rw [hG2]; simp; omega
        have hcd : ∀ w, (Op.stringOp BinOp.add (strN F2) (strN D)).run Tryz.prog w = .ok (.string (strN G1)) w := by rw [hG1]; exact sum_strN F2 D (by omega)
        have hcq : ∀ w, (Op.stringOp BinOp.add (strN G1) (strN Q)).run Tryz.prog w = .ok (.string (strN G2)) w := by rw [hG2]; exact sum_strN G1 Q (by omega)
        have hgz := strN_size G2
        have HRy : Hid (b1 = true → b2 = true → finish (combine sch h po pa qu) = if G2.length ≤ 200 then (G2, 0) else ([], 23)) := fun h1 h2 => finish_true HCmb.out h1 h2 (by rw [hG2, hG1, List.append_assoc])
        clear hG1 hG2 HCmb
        go_wp2_with fail
        refine Calls.mono (HU7.out _) ?_
        rintro e w18 ⟨rfl, hb18⟩
        have HB18 : Hid _ := HB17.out.trans (hb18.mono HB17.out.size)
        clear hb18
        go_wp2_with fail
        refine Calls.mono (HW1.out _) ?_
        rintro e w19 ⟨rfl, hb19⟩
        have HB19 : Hid _ := HB18.out.trans (hb19.mono HB18.out.size)
        clear hb19
        go_wp2_with fail
        refine Calls.mono (HW2.out _) ?_
        rintro e w20 ⟨rfl, hb20⟩
        have HB20 : Hid _ := HB19.out.trans (hb20.mono HB19.out.size)
        clear hb20
        cases b1 with
        | false =>
          go_wp2
          go_ret2
          rw [HRn.out rfl]
          exact ⟨rfl, HB20.out⟩
        | true =>
          cases b2 with
          | false =>
            go_wp2
            go_ret2
            rw [HRn.out rfl]
            exact ⟨rfl, HB20.out⟩
          | true =>
            have HR1 := HRy.out rfl rfl
            cases z with
            | true =>
              have HDx : Hid _ := HDt.out rfl rfl
              go_wp2_with fail
              refine Calls.mono (HDx.out _) ?_
              rintro e w21 ⟨rfl, hb21⟩
              have HB21 : Hid _ := HB20.out.trans (hb21.mono HB20.out.size)
              clear hb21
              by_cases h200 : 200 < G2.length
              · rw [if_neg (by omega)] at HR1
                have HR2 : Hid _ := HR1
                clear HR1
                go_wp2
                go_ret2
                rw [HR2.out]
                exact ⟨rfl, HB21.out⟩
              · rw [if_pos (by omega)] at HR1
                have HR2 : Hid _ := HR1
                clear HR1
                go_wp2
                go_ret2
                rw [HR2.out]
                exact ⟨rfl, HB21.out⟩
            | false =>
              have HDx : Hid _ := HDf.out rfl rfl
              go_wp2_with fail
              refine Calls.mono (HDx.out _) ?_
              rintro e w22 ⟨rfl, hb22⟩
              have HB22 : Hid _ := HB20.out.trans (hb22.mono HB20.out.size)
              clear hb22
              by_cases h200 : 200 < G2.length
              · rw [if_neg (by omega)] at HR1
                have HR2 : Hid _ := HR1
                clear HR1
                go_wp2
                go_ret2
                rw [HR2.out]
                exact ⟨rfl, HB22.out⟩
              · rw [if_pos (by omega)] at HR1
                have HR2 : Hid _ := HR1
                clear HR1
                go_wp2
                go_ret2
                rw [HR2.out]
                exact ⟨rfl, HB22.out⟩
      · rw [decide_eq_false (by rw [ht1e]; simp)] at hqe
        have hix := hix0 x y1 ht1e
        have hxn : ((x : Int) == 58) = false := by simp; omega
        clear ht1e ht12 hix0 hx58
        have HRn : Hid ((b1 && b2) = false → finish (combine sch h po pa qu) = ([], 25)) := finish_false HCmb.out
        obtain ⟨G1, hG1⟩ : ∃ G, G = F2 ++ D := ⟨_, rfl⟩
        obtain ⟨G2, hG2⟩ : ∃ G, G = G1 ++ Q := ⟨_, rfl⟩
        have hg1 : G1.length ≤ 60000 := by rw [hG1]; simp; omega
        have hg2 : G2.length ≤ 100000 := by rw [hG2]; simp; omega
        have hcd : ∀ w, (Op.stringOp BinOp.add (strN F2) (strN D)).run Tryz.prog w = .ok (.string (strN G1)) w := by rw [hG1]; exact sum_strN F2 D (by omega)
        have hcq : ∀ w, (Op.stringOp BinOp.add (strN G1) (strN Q)).run Tryz.prog w = .ok (.string (strN G2)) w := by rw [hG2]; exact sum_strN G1 Q (by omega)
        have hgz := strN_size G2
        have HRy : Hid (b1 = true → b2 = true → finish (combine sch h po pa qu) = if G2.length ≤ 200 then (G2, 0) else ([], 23)) := fun h1 h2 => finish_true HCmb.out h1 h2 (by rw [hG2, hG1, List.append_assoc])
        clear hG1 hG2 HCmb
        go_wp2_with fail
        refine Calls.mono (HU7.out _) ?_
        rintro e w23 ⟨rfl, hb23⟩
        have HB23 : Hid _ := HB17.out.trans (hb23.mono HB17.out.size)
        clear hb23
        go_wp2_with fail
        refine Calls.mono (HW1.out _) ?_
        rintro e w24 ⟨rfl, hb24⟩
        have HB24 : Hid _ := HB23.out.trans (hb24.mono HB23.out.size)
        clear hb24
        go_wp2_with fail
        refine Calls.mono (HW2.out _) ?_
        rintro e w25 ⟨rfl, hb25⟩
        have HB25 : Hid _ := HB24.out.trans (hb25.mono HB24.out.size)
        clear hb25
        cases b1 with
        | false =>
          go_wp2
          go_ret2
          rw [HRn.out rfl]
          exact ⟨rfl, HB25.out⟩
        | true =>
          cases b2 with
          | false =>
            go_wp2
            go_ret2
            rw [HRn.out rfl]
            exact ⟨rfl, HB25.out⟩
          | true =>
            have HR1 := HRy.out rfl rfl
            cases z with
            | true =>
              have HDx : Hid _ := HDt.out rfl rfl
              go_wp2_with fail
              refine Calls.mono (HDx.out _) ?_
              rintro e w26 ⟨rfl, hb26⟩
              have HB26 : Hid _ := HB25.out.trans (hb26.mono HB25.out.size)
              clear hb26
              by_cases h200 : 200 < G2.length
              · rw [if_neg (by omega)] at HR1
                have HR2 : Hid _ := HR1
                clear HR1
                go_wp2
                go_ret2
                rw [HR2.out]
                exact ⟨rfl, HB26.out⟩
              · rw [if_pos (by omega)] at HR1
                have HR2 : Hid _ := HR1
                clear HR1
                go_wp2
                go_ret2
                rw [HR2.out]
                exact ⟨rfl, HB26.out⟩
            | false =>
              have HDx : Hid _ := HDf.out rfl rfl
              go_wp2_with fail
              refine Calls.mono (HDx.out _) ?_
              rintro e w27 ⟨rfl, hb27⟩
              have HB27 : Hid _ := HB25.out.trans (hb27.mono HB25.out.size)
              clear hb27
              by_cases h200 : 200 < G2.length
              · rw [if_neg (by omega)] at HR1
                have HR2 : Hid _ := HR1
                clear HR1
                go_wp2
                go_ret2
                rw [HR2.out]
                exact ⟨rfl, HB27.out⟩
              · rw [if_pos (by omega)] at HR1
                have HR2 : Hid _ := HR1
                clear HR1
                go_wp2
                go_ret2
                rw [HR2.out]
                exact ⟨rfl, HB27.out⟩
    · have hs7' := hs7 pp hpo
      have hppb : ∀ c ∈ pp, c < 256 := fun c hc => hpob c (by rw [hpo]; simp [hc])
      have hppl : pp.length ≤ 10000 := by have := congrArg List.length hpo; simp at this; omega
      rw [decide_eq_false (by rw [ht1y]; simp)] at hqe
      have hix := hix0 58 y1 ht1y
      have hpl := fun w => refPort_any pp w hppb (by omega)
      have hun : isPort pp = true → (pp = usual sch ↔ value pp = usualN sch) := usual_num
      rw [HUS.out] at hun
      have HCmb0 : Hid (combine sch h po pa qu = if isPort pp then (if b1 && b2 then some (F2 ++ (if pp = usual sch then [] else po) ++ (D ++ Q)) else none) else none) := by
        show _ = _
        rw [HC.out, hpo]
        simp only [List.isEmpty_cons, Bool.false_or, Bool.true_and, List.tail_cons, reduceCtorEq, false_or]
      clear hs7 hix0 ht1y HC hpo
      go_wp2_with fail
      refine Calls.mono (HU8.out _) ?_
      rintro e w28 ⟨rfl, hb28⟩
      have HB28 : Hid _ := HB17.out.trans (hb28.mono HB17.out.size)
      clear hb28
      go_wp2_with fail
      refine Calls.mono (hpl _) ?_
      rintro e wp ⟨⟨v, rfl, hv⟩, hwp⟩
      subst wp
      clear hpl
      cases hprt : isPort pp with
      | false =>
        rw [hprt] at HCmb0
        have HR : Hid (finish (combine sch h po pa qu) = ([], 25)) := by show _ = _; rw [HCmb0.out]; rfl
        clear hv hun
        go_wp2
        go_ret2
        rw [HR.out]
        exact ⟨rfl, HB28.out⟩
      | true =>
        rw [hprt] at HCmb0
        have hun2 := hun hprt
        rw [← hv hprt] at hun2
        clear hun hv
        by_cases hvu : v = 80
        · have hve : ((v : Int) == 80) = true := by simp; omega
          have hvn : ((v : Int) != 80) = false := by simp; omega
          have HCmb : Hid (combine sch h po pa qu = if b1 && b2 then some (F2 ++ (D ++ Q)) else none) := by
            show _ = _
            rw [HCmb0.out, if_pos (hun2.2 hvu)]
            simp
          clear hvu hun2 HCmb0
          have HRn : Hid ((b1 && b2) = false → finish (combine sch h po pa qu) = ([], 25)) := finish_false HCmb.out
          obtain ⟨G1, hG1⟩ : ∃ G, G = F2 ++ D := ⟨_, rfl⟩
          obtain ⟨G2, hG2⟩ : ∃ G, G = G1 ++ Q := ⟨_, rfl⟩
          have hg1 : G1.length ≤ 60000 := by rw [hG1]; simp; omega
          have hg2 : G2.length ≤ 100000 := by rw [hG2]; simp; omega
          have hcd : ∀ w, (Op.stringOp BinOp.add (strN F2) (strN D)).run Tryz.prog w = .ok (.string (strN G1)) w := by rw [hG1]; exact sum_strN F2 D (by omega)
          have hcq : ∀ w, (Op.stringOp BinOp.add (strN G1) (strN Q)).run Tryz.prog w = .ok (.string (strN G2)) w := by rw [hG2]; exact sum_strN G1 Q (by omega)
          have hgz := strN_size G2
          have HRy : Hid (b1 = true → b2 = true → finish (combine sch h po pa qu) = if G2.length ≤ 200 then (G2, 0) else ([], 23)) := fun h1 h2 => finish_true HCmb.out h1 h2 (by rw [hG2, hG1, List.append_assoc])
          clear hG1 hG2 HCmb
          go_wp2_with fail
          refine Calls.mono (HU7.out _) ?_
          rintro e w29 ⟨rfl, hb29⟩
          have HB29 : Hid _ := HB28.out.trans (hb29.mono HB28.out.size)
          clear hb29
          go_wp2_with fail
          refine Calls.mono (HW1.out _) ?_
          rintro e w30 ⟨rfl, hb30⟩
          have HB30 : Hid _ := HB29.out.trans (hb30.mono HB29.out.size)
          clear hb30
          go_wp2_with fail
          refine Calls.mono (HW2.out _) ?_
          rintro e w31 ⟨rfl, hb31⟩
          have HB31 : Hid _ := HB30.out.trans (hb31.mono HB30.out.size)
          clear hb31
          cases b1 with
          | false =>
            go_wp2
            go_ret2
            rw [HRn.out rfl]
            exact ⟨rfl, HB31.out⟩
          | true =>
            cases b2 with
            | false =>
              go_wp2
              go_ret2
              rw [HRn.out rfl]
              exact ⟨rfl, HB31.out⟩
            | true =>
              have HR1 := HRy.out rfl rfl
              cases z with
              | true =>
                have HDx : Hid _ := HDt.out rfl rfl
                go_wp2_with fail
                refine Calls.mono (HDx.out _) ?_
                rintro e w32 ⟨rfl, hb32⟩
                have HB32 : Hid _ := HB31.out.trans (hb32.mono HB31.out.size)
                clear hb32
                by_cases h200 : 200 < G2.length
                · rw [if_neg (by omega)] at HR1
                  have HR2 : Hid _ := HR1
                  clear HR1
                  go_wp2
                  go_ret2
                  rw [HR2.out]
                  exact ⟨rfl, HB32.out⟩
                · rw [if_pos (by omega)] at HR1
                  have HR2 : Hid _ := HR1
                  clear HR1
                  go_wp2
                  go_ret2
                  rw [HR2.out]
                  exact ⟨rfl, HB32.out⟩
              | false =>
                have HDx : Hid _ := HDf.out rfl rfl
                go_wp2_with fail
                refine Calls.mono (HDx.out _) ?_
                rintro e w33 ⟨rfl, hb33⟩
                have HB33 : Hid _ := HB31.out.trans (hb33.mono HB31.out.size)
                clear hb33
                by_cases h200 : 200 < G2.length
                · rw [if_neg (by omega)] at HR1
                  have HR2 : Hid _ := HR1
                  clear HR1
                  go_wp2
                  go_ret2
                  rw [HR2.out]
                  exact ⟨rfl, HB33.out⟩
                · rw [if_pos (by omega)] at HR1
                  have HR2 : Hid _ := HR1
                  clear HR1
                  go_wp2
                  go_ret2
                  rw [HR2.out]
                  exact ⟨rfl, HB33.out⟩
        · have hve : ((v : Int) == 80) = false := by simp; omega
          have hvn : ((v : Int) != 80) = true := by simp; omega
          have HCmb : Hid (combine sch h po pa qu = if b1 && b2 then some (F3 ++ (D ++ Q)) else none) := by
            show _ = _
            rw [HCmb0.out, if_neg (fun e => hvu (hun2.1 e)), HF3.out]
            simp
          clear hvu hun2 HCmb0
          have HRn : Hid ((b1 && b2) = false → finish (combine sch h po pa qu) = ([], 25)) := finish_false HCmb.out
          obtain ⟨G1, hG1⟩ : ∃ G, G = F3 ++ D := ⟨_, rfl⟩
          obtain ⟨G2, hG2⟩ : ∃ G, G = G1 ++ Q := ⟨_, rfl⟩
          have hg1 : G1.length ≤ 60000 := by rw [hG1]; simp; omega
          have hg2 : G2.length ≤ 100000 := by rw [hG2]; simp; omega
          have hcd : ∀ w, (Op.stringOp BinOp.add (strN F3) (strN D)).run Tryz.prog w = .ok (.string (strN G1)) w := by rw [hG1]; exact sum_strN F3 D (by omega)
          have hcq : ∀ w, (Op.stringOp BinOp.add (strN G1) (strN Q)).run Tryz.prog w = .ok (.string (strN G2)) w := by rw [hG2]; exact sum_strN G1 Q (by omega)
          have hgz := strN_size G2
          have HRy : Hid (b1 = true → b2 = true → finish (combine sch h po pa qu) = if G2.length ≤ 200 then (G2, 0) else ([], 23)) := fun h1 h2 => finish_true HCmb.out h1 h2 (by rw [hG2, hG1, List.append_assoc])
          clear hG1 hG2 HCmb
          go_wp2_with fail
          refine Calls.mono (HU7.out _) ?_
          rintro e w34 ⟨rfl, hb34⟩
          have HB34 : Hid _ := HB28.out.trans (hb34.mono HB28.out.size)
          clear hb34
          go_wp2_with fail
          refine Calls.mono (HW1.out _) ?_
          rintro e w35 ⟨rfl, hb35⟩
          have HB35 : Hid _ := HB34.out.trans (hb35.mono HB34.out.size)
          clear hb35
          go_wp2_with fail
          refine Calls.mono (HW2.out _) ?_
          rintro e w36 ⟨rfl, hb36⟩
          have HB36 : Hid _ := HB35.out.trans (hb36.mono HB35.out.size)
          clear hb36
          cases b1 with
          | false =>
            go_wp2
            go_ret2
            rw [HRn.out rfl]
            exact ⟨rfl, HB36.out⟩
          | true =>
            cases b2 with
            | false =>
              go_wp2
              go_ret2
              rw [HRn.out rfl]
              exact ⟨rfl, HB36.out⟩
            | true =>
              have HR1 := HRy.out rfl rfl
              cases z with
              | true =>
                have HDx : Hid _ := HDt.out rfl rfl
                go_wp2_with fail
                refine Calls.mono (HDx.out _) ?_
                rintro e w37 ⟨rfl, hb37⟩
                have HB37 : Hid _ := HB36.out.trans (hb37.mono HB36.out.size)
                clear hb37
                by_cases h200 : 200 < G2.length
                · rw [if_neg (by omega)] at HR1
                  have HR2 : Hid _ := HR1
                  clear HR1
                  go_wp2
                  go_ret2
                  rw [HR2.out]
                  exact ⟨rfl, HB37.out⟩
                · rw [if_pos (by omega)] at HR1
                  have HR2 : Hid _ := HR1
                  clear HR1
                  go_wp2
                  go_ret2
                  rw [HR2.out]
                  exact ⟨rfl, HB37.out⟩
              | false =>
                have HDx : Hid _ := HDf.out rfl rfl
                go_wp2_with fail
                refine Calls.mono (HDx.out _) ?_
                rintro e w38 ⟨rfl, hb38⟩
                have HB38 : Hid _ := HB36.out.trans (hb38.mono HB36.out.size)
                clear hb38
                by_cases h200 : 200 < G2.length
                · rw [if_neg (by omega)] at HR1
                  have HR2 : Hid _ := HR1
                  clear HR1
                  go_wp2
                  go_ret2
                  rw [HR2.out]
                  exact ⟨rfl, HB38.out⟩
                · rw [if_pos (by omega)] at HR1
                  have HR2 : Hid _ := HR1
                  clear HR1
                  go_wp2
                  go_ret2
                  rw [HR2.out]
                  exact ⟨rfl, HB38.out⟩
end Go.Proofs.YteockpllnhjooaaGreatDoor

/-
  FnRefEA.
-/
import Derived.Test.YteockpllnhjooaaGreatDoorQC23
import Derived.Test.YteockpllnhjooaaGreatDoorQC31
import Derived.Test.YteockpllnhjooaaGreatDoorQC34
import Derived.Test.YteockpllnhjooaaGreatDoorQC02
namespace Go.Proofs.YteockpllnhjooaaGreatDoor
open Go.RowKit NumMath
open EntMath (E)
set_option maxRecDepth 100000
set_option linter.unusedVariables false
set_option linter.unusedSimpArgs false

/-- An entry of which some fields have been laid anew. -/
def mixE (f g0 g t0 t L b0 b : List Nat) (n : Int) (bg bt bb : Bool) : E := ⟨f, if bg then g else g0, if bt then t else t0, L, if bb then b else b0, n⟩

set_option maxHeartbeats 32000000 in
theorem refEntClean_any (e : E) (w : World) (hF : EFit e) :
    Calls Tryz.prog 11 #[entV e] w fun r w' => r = .returned (.tuple #[entV (EntMath.clean e).1, .int .i64 ((EntMath.clean e).2 : Int)]) ∧ Below w.heap.size w w' := by
  have HX : Hid (EntMath.clean e = EntMath.cleanG (AddrMath.parse e.feed).1 (AddrMath.parse e.feed).2 (EntMath.linkP e.link).1 (EntMath.linkP e.link).2 (TxtMath.cleanB e.guid) (TxtMath.cutB e.title 120) (TxtMath.cutB e.body 400) e.time) := rfl
  have hl2 := hF.l2; have hl3 := hF.l3; have hl5 := hF.l5
  have HP : Hid (∀ w, _) := fun w => refParse_at e.feed (AddrMath.parse e.feed).1 (AddrMath.parse e.feed).2 w hF.f1 hF.l1 (Prod.eta _).symm
  have HL : Hid (∀ w, _) := fun w => refParse_at e.link (AddrMath.parse e.link).1 (AddrMath.parse e.link).2 w hF.f4 hF.l4 (Prod.eta _).symm
  have HCt : Hid (∀ w, _) := fun w => refCut_any e.title 120 w hF.f3 (by omega) (by omega)
  have HCb : Hid (∀ w, _) := fun w => refCut_any e.body 400 w hF.f5 (by omega) (by omega)
  have HCg : Hid (∀ w, _) := fun w => refCleanS_any e.guid w hF.f2 (by omega)
  have eL := strN_nil_eq e.link hF.f4
  have hcode1 := AddrMath.parse_code e.feed
  have hcode2 := AddrMath.parse_code e.link
  have hgb := cleanB_lt e.guid
  have hgl := cleanB_len e.guid
  have htb := EntMath.cutB_lt e.title 120
  have htl := EntMath.cutB_len e.title 120
  have hllb := AddrMath.parse_lt e.link
  have hlll := AddrMath.parse_len e.link
  have HLN : Hid ((AddrMath.parse e.link).2 = 0 → (AddrMath.parse e.link).1 ≠ []) := fun h => EntMath.parse_ne (s := e.link) (by rw [← h])
  have HLP0 : Hid (e.link = [] → EntMath.linkP e.link = ([], 0)) := fun h => by unfold EntMath.linkP; rw [if_pos h]
  have HLP1 : Hid (e.link ≠ [] → EntMath.linkP e.link = AddrMath.parse e.link) := fun h => by unfold EntMath.linkP; rw [if_neg h]
  have HR0 : Hid (EntAt ((w.alloc (.cells #[.string (strN e.feed), .string (strN e.guid), .string (strN e.title), .string (strN e.link), .string (strN e.body), .int .i64 e.time] 23)).alloc (.cells #[.string ⟨#[]⟩, .string ⟨#[]⟩, .string ⟨#[]⟩, .string ⟨#[]⟩, .string ⟨#[]⟩, .int .i64 0] 23)) (w.heap.size + 1) EntMath.zero) := ⟨Arr.new _ _ (entL EntMath.zero) (by simp)⟩
  have HA0 : Hid (EntAt ((w.alloc (.cells #[.string (strN e.feed), .string (strN e.guid), .string (strN e.title), .string (strN e.link), .string (strN e.body), .int .i64 e.time] 23)).alloc (.cells #[.string ⟨#[]⟩, .string ⟨#[]⟩, .string ⟨#[]⟩, .string ⟨#[]⟩, .string ⟨#[]⟩, .int .i64 0] 23)) w.heap.size e) := (EntAt.new w e).alloc _
  have HB0 : Hid (Below w.heap.size w ((w.alloc (.cells #[.string (strN e.feed), .string (strN e.guid), .string (strN e.title), .string (strN e.link), .string (strN e.body), .int .i64 e.time] 23)).alloc (.cells #[.string ⟨#[]⟩, .string ⟨#[]⟩, .string ⟨#[]⟩, .string ⟨#[]⟩, .string ⟨#[]⟩, .int .i64 0] 23))) := ((Below.refl _ _).alloc (Nat.le_refl _) _).alloc (by simp) _
  generalize (AddrMath.parse e.feed).1 = f at *
  generalize (AddrMath.parse e.feed).2 = kf at *
  generalize TxtMath.cleanB e.guid = g at *
  generalize TxtMath.cutB e.title 120 = t at *
  generalize TxtMath.cutB e.body 400 = b at *
  clear hF
  unfold entV at *
  go_enter Tryz.func11, Tryz.ntmps11
  go_wp2_with fail
  generalize World.alloc (World.alloc w _) _ = W0 at *
  have HGs : Hid (w.heap.size < w.heap.size + 1) := Nat.lt_succ_self _
  generalize w.heap.size + 1 = G2 at *
  have HGe : Hid (w.heap.size ≤ w.heap.size) := Nat.le_refl _
  refine Calls.mono (HP.out _) ?_
  rintro r w1 ⟨rfl, hb⟩
  have HA1 : Hid _ := HA0.out.later hb HA0.out.lt
  have HR1 : Hid _ := HR0.out.later hb HR0.out.lt
  have HB1 : Hid _ := HB0.out.trans (hb.mono HB0.out.size)
  obtain ⟨c0, c1, c2, c3, c4, c5⟩ := HA1.out.cells
  have hf0 := HA1.out.frozen 0
  have hlt1 := HA1.out.lt
  have HA2 : Hid (EntAt (w1.setCell ⟨w.heap.size, 0, none⟩ (.string (strN f))) w.heap.size ⟨f, e.guid, e.title, e.link, e.body, e.time⟩) := ⟨Arr.set HA1.out.arr 0 _⟩
  have HR2 : Hid (EntAt (w1.setCell ⟨w.heap.size, 0, none⟩ (.string (strN f))) G2 EntMath.zero) := ⟨Arr.set_other HR1.out.arr _ (by show G2 ≠ w.heap.size; have := HGs.out; omega) _⟩
  have HB2 : Hid (Below w.heap.size w (w1.setCell ⟨w.heap.size, 0, none⟩ (.string (strN f)))) := HB1.out.setCell (Nat.le_refl _) _
  clear hb HA0 HR0 HB0 c1 c2 c4 c5
  obtain rfl | hk1 : kf = 0 ∨ 0 < kf := by omega
  rotate_left
  · have HQ : Hid (EntMath.clean e = (EntMath.zero, kf)) := by show _ = _; rw [HX.out]; unfold EntMath.cleanG; rw [if_pos (by omega)]
    clear c3
    go_wp2_with (refine wpList_store_ent rfl (.tmp 2) (.tmp 14) rfl G2 EntMath.zero EntMath.zero rfl rfl HR2.out ?_)
    refine ret_ent G2 EntMath.zero (.int .i64 (kf : Int)) rfl rfl rfl (EntAt.row HR2.out) rfl ⟨by rw [HQ.out]; rfl, below_setRow HB2.out (Nat.le_of_lt HGs.out) _⟩
  by_cases hlk : e.link = []
  · have eL2 : ((strN e.link).toList == ([] : List UInt8)) = true := by rw [eL]; simp [hlk]
    have HLQ : Hid _ := HLP0.out hlk
    have HE9 : Hid (EntAt (w1.setCell ⟨w.heap.size, 0, none⟩ (.string (strN f))) w.heap.size ⟨f, e.guid, e.title, [], e.body, e.time⟩) := by have h := HA2.out; rw [hlk] at h; exact h
    have HR9 : Hid _ := HR2.out
    have HB9 : Hid _ := HB2.out
    clear eL hlk HA2 HR2 HB2
    go_wp2
    generalize w1.setCell ⟨w.heap.size, 0, none⟩ (.string (strN f)) = wq at *
    clear c0 c3 hf0 hlt1 HA1 HR1 HB1 eL2
    have HQ0 : Hid (EntMath.clean e = if EntMath.guidOf g [] t = [] then (EntMath.zero, 26) else if 200 < (TxtMath.runes (EntMath.guidOf g [] t)).length then (EntMath.zero, 23) else if e.time < 0 ∨ 281474976710655 < e.time then (EntMath.zero, 24) else (⟨f, EntMath.guidOf g [] t, t, [], b, e.time⟩, 0)) := by
      show _ = _
      rw [HX.out, HLQ.out]; unfold EntMath.cleanG; rw [if_neg (by simp), if_neg (by simp)]
    have h0 : ∀ (a : Act) (l : Array Bool) (w' : World), 42 ≤ a.tmps.size → l.getD 1 false = false → l.getD 2 false = false → l.getD 4 false = false → l.getD 5 false = false → l.getD 7 false = false → l.getD 8 false = false → l.getD 9 false = false → l.getD 10 false = false → l.getD 11 false = false → l.getD 12 false = false → l.getD 13 false = false → l.getD 14 false = false → Below w.heap.size w w' → EntAt w' G2 EntMath.zero → EntAt w' w.heap.size ⟨f, e.guid, e.title, [], e.body, e.time⟩ → (fun a' l a w' => ∃ x31 x32 x34 x35 x37 x38 x39 x40 x41, a = (((((((((a'.put (some 31) x31).put (some 32) x32).put (some 34) x34).put (some 35) x35).put (some 37) x37).put (some 38) x38).put (some 39) x39).put (some 40) x40).put (some 41) x41) ∧ (Below w.heap.size w w' ∧ EntAt w' G2 EntMath.zero ∧ EntAt w' w.heap.size (mixE f e.guid g e.title t [] e.body b e.time (l.getD 14 false) (l.getD 10 false) (l.getD 12 false))) ∧ ((l.getD 10 false = true → l.getD 1 false = true ∧ l.getD 4 false = true ∧ l.getD 7 false = true) ∧ (l.getD 12 false = true → l.getD 10 false = true) ∧ (l.getD 14 false = true → l.getD 12 false = true)) ∧ (l.getD 1 false = true → x31 = .string (strN e.title)) ∧ (l.getD 2 false = true → x32 = .string (strN t)) ∧ (l.getD 4 false = true → x34 = .string (strN e.body)) ∧ (l.getD 5 false = true → x35 = .string (strN b)) ∧ (l.getD 7 false = true → x37 = .string (strN e.guid)) ∧ (l.getD 8 false = true → x38 = .string (strN g)) ∧ (l.getD 9 false = true → x39 = .pointer (some ⟨w.heap.size, 2, none⟩)) ∧ (l.getD 11 false = true → x40 = .pointer (some ⟨w.heap.size, 4, none⟩)) ∧ (l.getD 13 false = true → x41 = .pointer (some ⟨w.heap.size, 1, none⟩))) a l a w' := by
      intro a l w' hsz n1 n2 n4 n5 n7 n8 n9 n10 n11 n12 n13 n14 hB hR hE
      refine ⟨a.tmps.getD 31 undef, a.tmps.getD 32 undef, a.tmps.getD 34 undef, a.tmps.getD 35 undef, a.tmps.getD 37 undef, a.tmps.getD 38 undef, a.tmps.getD 39 undef, a.tmps.getD 40 undef, a.tmps.getD 41 undef, by rw [put_self a 31 (by omega), put_self a 32 (by omega), put_self a 34 (by omega), put_self a 35 (by omega), put_self a 37 (by omega), put_self a 38 (by omega), put_self a 39 (by omega), put_self a 40 (by omega), put_self a 41 (by omega)], ⟨hB, hR, by rw [n10, n12, n14]; exact hE⟩, ⟨fun h => not_up n10 h, fun h => not_up n12 h, fun h => not_up n14 h⟩, not_up n1, not_up n2, not_up n4, not_up n5, not_up n7, not_up n8, not_up n9, not_up n11, not_up n13⟩
    refine wp_region_held_drew (S := fun _ => True) (by kernel_rfl) trivial (fun hS => ?_)
    refine wpAnyH_take (i := 0) (v := ?_) rfl (by kernel_rfl) (by kernel_rfl) (by kernel_rfl) (fun _ _ _ h => h) (Or.inl ⟨by rfl, ?_⟩) hS ?_
    rotate_left 1
    · intro w hSw; (try dsimp only at hSw); go_simp <;> with_reducible rfl
    simp only [List.getElem_toArray, List.getElem_cons_zero, List.getElem_cons_succ, Act.put, List.setIfInBounds_toArray, List.set_cons_zero, List.set_cons_succ]
    refine wpAnyH_take (i := 3) (v := ?_) rfl (by kernel_rfl) (by kernel_rfl) (by kernel_rfl) (fun _ _ _ h => h) (Or.inl ⟨by rfl, ?_⟩) hS ?_
    rotate_left 1
    · intro w hSw; (try dsimp only at hSw); go_simp <;> with_reducible rfl
    simp only [List.getElem_toArray, List.getElem_cons_zero, List.getElem_cons_succ, Act.put, List.setIfInBounds_toArray, List.set_cons_zero, List.set_cons_succ]
    refine wpAnyH_take (i := 6) (v := ?_) rfl (by kernel_rfl) (by kernel_rfl) (by kernel_rfl) (fun _ _ _ h => h) (Or.inl ⟨by rfl, ?_⟩) hS ?_
    rotate_left 1
    · intro w hSw; (try dsimp only at hSw); go_simp <;> with_reducible rfl
    simp only [List.getElem_toArray, List.getElem_cons_zero, List.getElem_cons_succ, Act.put, List.setIfInBounds_toArray, List.set_cons_zero, List.set_cons_succ]
    refine wpAnyH_invN_at (Rel := fun a' l a w' => ∃ x31 x32 x34 x35 x37 x38 x39 x40 x41, a = (((((((((a'.put (some 31) x31).put (some 32) x32).put (some 34) x34).put (some 35) x35).put (some 37) x37).put (some 38) x38).put (some 39) x39).put (some 40) x40).put (some 41) x41) ∧ (Below w.heap.size w w' ∧ EntAt w' G2 EntMath.zero ∧ EntAt w' w.heap.size (mixE f e.guid g e.title t [] e.body b e.time (l.getD 14 false) (l.getD 10 false) (l.getD 12 false))) ∧ ((l.getD 10 false = true → l.getD 1 false = true ∧ l.getD 4 false = true ∧ l.getD 7 false = true) ∧ (l.getD 12 false = true → l.getD 10 false = true) ∧ (l.getD 14 false = true → l.getD 12 false = true)) ∧ (l.getD 1 false = true → x31 = .string (strN e.title)) ∧ (l.getD 2 false = true → x32 = .string (strN t)) ∧ (l.getD 4 false = true → x34 = .string (strN e.body)) ∧ (l.getD 5 false = true → x35 = .string (strN b)) ∧ (l.getD 7 false = true → x37 = .string (strN e.guid)) ∧ (l.getD 8 false = true → x38 = .string (strN g)) ∧ (l.getD 9 false = true → x39 = .pointer (some ⟨w.heap.size, 2, none⟩)) ∧ (l.getD 11 false = true → x40 = .pointer (some ⟨w.heap.size, 4, none⟩)) ∧ (l.getD 13 false = true → x41 = .pointer (some ⟨w.heap.size, 1, none⟩))) (rs := [1, 2, 4, 5, 7, 8, 9, 10, 11, 12, 13, 14]) (by kernel_rfl) (by kernel_rfl) (by kernel_rfl) (of_decide_eq_true (by kernel_rfl)) ?_ ?_ ?_
    · exact h0 _ _ _ (of_decide_eq_true (by kernel_rfl)) (by kernel_rfl) (by kernel_rfl) (by kernel_rfl) (by kernel_rfl) (by kernel_rfl) (by kernel_rfl) (by kernel_rfl) (by kernel_rfl) (by kernel_rfl) (by kernel_rfl) (by kernel_rfl) (by kernel_rfl) (HB9.out).drew (⟨Arr.drew (HR9.out).arr⟩) (⟨Arr.drew (HE9.out).arr⟩)
    · simp only [Act.put, List.setIfInBounds_toArray, List.set_cons_zero, List.set_cons_succ]
      refine InvStepsN.cons rfl (fun l a w' hsz hni hI hdep K hK => ?_) (InvStepsN.cons rfl (fun l a w' hsz hni hI hdep K hK => ?_) (InvStepsN.cons rfl (fun l a w' hsz hni hI hdep K hK => ?_) (InvStepsN.cons rfl (fun l a w' hsz hni hI hdep K hK => ?_) (InvStepsN.cons rfl (fun l a w' hsz hni hI hdep K hK => ?_) (InvStepsN.cons rfl (fun l a w' hsz hni hI hdep K hK => ?_) (InvStepsN.cons rfl (fun l a w' hsz hni hI hdep K hK => ?_) (InvStepsN.cons rfl (fun l a w' hsz hni hI hdep K hK => ?_) (InvStepsN.cons rfl (fun l a w' hsz hni hI hdep K hK => ?_) (InvStepsN.cons rfl (fun l a w' hsz hni hI hdep K hK => ?_) (InvStepsN.cons rfl (fun l a w' hsz hni hI hdep K hK => ?_) (InvStepsN.cons rfl (fun l a w' hsz hni hI hdep K hK => ?_) (InvStepsN.nil))))))))))))
      · obtain ⟨x31, x32, x34, x35, x37, x38, x39, x40, x41, rfl, ⟨hB, hR, hE⟩, ⟨o1, o2, o3⟩, h1, h2, h4, h5, h7, h8, h9, h11, h13⟩ := hI
        have n10 : l.getD 10 false = false := by
          cases hq : l.getD 10 false with
          | false => rfl
          | true => have := (o1 hq).1; rw [hni] at this; cases this
        have n12 : l.getD 12 false = false := by
          cases hq : l.getD 12 false with
          | false => rfl
          | true => have := o2 hq; rw [n10] at this; cases this
        have n14 : l.getD 14 false = false := by
          cases hq : l.getD 14 false with
          | false => rfl
          | true => have := o3 hq; rw [n12] at this; cases this
        have hE2 : EntAt w' w.heap.size ⟨f, e.guid, e.title, [], e.body, e.time⟩ := by rw [n10, n12, n14] at hE; exact hE
        have hcell := hE2.cells.2.2.1
        clear n10 n12 n14 hE2
        have H1 : Hid _ := h1
        have H2 : Hid _ := h2
        have H4 : Hid _ := h4
        have H5 : Hid _ := h5
        have H7 : Hid _ := h7
        have H8 : Hid _ := h8
        have H9 : Hid _ := h9
        have H11 : Hid _ := h11
        have H13 : Hid _ := h13
        have HE : Hid _ := hE
        have HO : Hid _ := (⟨o1, o2, o3⟩ : _ ∧ _ ∧ _)
        have HNI : Hid _ := hni
        have HSZ : Hid _ := hsz
        have HRR : Hid _ := hR
        have HBB : Hid _ := hB
        clear h1 h2 h4 h5 h7 h8 h9 h11 h13 hdep hE o1 o2 o3 hni hsz hR hB 
        go_simp
        refine hK.out _ _ ⟨.string (strN e.title), x32, x34, x35, x37, x38, x39, x40, x41, rfl, ⟨HBB.out, HRR.out, by rw [set_other (by decide), set_other (by decide), set_other (by decide)]; exact HE.out⟩, ⟨fun h => ⟨up_set (HO.out.1 (up_keep h (by decide))).1, up_set (HO.out.1 (up_keep h (by decide))).2.1, up_set (HO.out.1 (up_keep h (by decide))).2.2⟩, fun h => up_set (HO.out.2.1 (up_keep h (by decide))), fun h => up_set (HO.out.2.2 (up_keep h (by decide)))⟩, fun _ => rfl, fun h => H2.out (up_keep h (by decide)), fun h => H4.out (up_keep h (by decide)), fun h => H5.out (up_keep h (by decide)), fun h => H7.out (up_keep h (by decide)), fun h => H8.out (up_keep h (by decide)), fun h => H9.out (up_keep h (by decide)), fun h => H11.out (up_keep h (by decide)), fun h => H13.out (up_keep h (by decide))⟩
      · obtain ⟨x31, x32, x34, x35, x37, x38, x39, x40, x41, rfl, ⟨hB, hR, hE⟩, ⟨o1, o2, o3⟩, h1, h2, h4, h5, h7, h8, h9, h11, h13⟩ := hI
        have d1 := h1 (hdep { on := 1, ground := .data } (by simp) rfl)
        subst d1
        have H1 : Hid _ := h1
        have H2 : Hid _ := h2
        have H4 : Hid _ := h4
        have H5 : Hid _ := h5
        have H7 : Hid _ := h7
        have H8 : Hid _ := h8
        have H9 : Hid _ := h9
        have H11 : Hid _ := h11
        have H13 : Hid _ := h13
        have HE : Hid _ := hE
        have HO : Hid _ := (⟨o1, o2, o3⟩ : _ ∧ _ ∧ _)
        have HNI : Hid _ := hni
        have HSZ : Hid _ := hsz
        have HRR : Hid _ := hR
        have HBB : Hid _ := hB
        clear h1 h2 h4 h5 h7 h8 h9 h11 h13 hdep hE o1 o2 o3 hni hsz hR hB 
        go_simp
        refine Calls.mono (HCt.out _) ?_
        rintro r w2 ⟨rfl, hb⟩
        refine hK.out _ _ ⟨.string (strN e.title), .string (strN t), x34, x35, x37, x38, x39, x40, x41, rfl, ⟨HBB.out.trans (hb.mono HBB.out.size), HRR.out.later hb HRR.out.lt, by rw [set_other (by decide), set_other (by decide), set_other (by decide)]; exact HE.out.later hb HE.out.lt⟩, ⟨fun h => ⟨up_set (HO.out.1 (up_keep h (by decide))).1, up_set (HO.out.1 (up_keep h (by decide))).2.1, up_set (HO.out.1 (up_keep h (by decide))).2.2⟩, fun h => up_set (HO.out.2.1 (up_keep h (by decide))), fun h => up_set (HO.out.2.2 (up_keep h (by decide)))⟩, fun h => H1.out (up_keep h (by decide)), fun _ => rfl, fun h => H4.out (up_keep h (by decide)), fun h => H5.out (up_keep h (by decide)), fun h => H7.out (up_keep h (by decide)), fun h => H8.out (up_keep h (by decide)), fun h => H9.out (up_keep h (by decide)), fun h => H11.out (up_keep h (by decide)), fun h => H13.out (up_keep h (by decide))⟩
      · obtain ⟨x31, x32, x34, x35, x37, x38, x39, x40, x41, rfl, ⟨hB, hR, hE⟩, ⟨o1, o2, o3⟩, h1, h2, h4, h5, h7, h8, h9, h11, h13⟩ := hI
        have n10 : l.getD 10 false = false := by
          cases hq : l.getD 10 false with
          | false => rfl
          | true => have := (o1 hq).2.1; rw [hni] at this; cases this
        have n12 : l.getD 12 false = false := by
          cases hq : l.getD 12 false with
          | false => rfl
          | true => have := o2 hq; rw [n10] at this; cases this
        have n14 : l.getD 14 false = false := by
          cases hq : l.getD 14 false with
          | false => rfl
          | true => have := o3 hq; rw [n12] at this; cases this
        have hE2 : EntAt w' w.heap.size ⟨f, e.guid, e.title, [], e.body, e.time⟩ := by rw [n10, n12, n14] at hE; exact hE
        have hcell := hE2.cells.2.2.2.2.1
        clear n10 n12 n14 hE2
        have H1 : Hid _ := h1
        have H2 : Hid _ := h2
        have H4 : Hid _ := h4
        have H5 : Hid _ := h5
        have H7 : Hid _ := h7
        have H8 : Hid _ := h8
        have H9 : Hid _ := h9
        have H11 : Hid _ := h11
        have H13 : Hid _ := h13
        have HE : Hid _ := hE
        have HO : Hid _ := (⟨o1, o2, o3⟩ : _ ∧ _ ∧ _)
        have HNI : Hid _ := hni
        have HSZ : Hid _ := hsz
        have HRR : Hid _ := hR
        have HBB : Hid _ := hB
        clear h1 h2 h4 h5 h7 h8 h9 h11 h13 hdep hE o1 o2 o3 hni hsz hR hB 
        go_simp
        refine hK.out _ _ ⟨x31, x32, .string (strN e.body), x35, x37, x38, x39, x40, x41, rfl, ⟨HBB.out, HRR.out, by rw [set_other (by decide), set_other (by decide), set_other (by decide)]; exact HE.out⟩, ⟨fun h => ⟨up_set (HO.out.1 (up_keep h (by decide))).1, up_set (HO.out.1 (up_keep h (by decide))).2.1, up_set (HO.out.1 (up_keep h (by decide))).2.2⟩, fun h => up_set (HO.out.2.1 (up_keep h (by decide))), fun h => up_set (HO.out.2.2 (up_keep h (by decide)))⟩, fun h => H1.out (up_keep h (by decide)), fun h => H2.out (up_keep h (by decide)), fun _ => rfl, fun h => H5.out (up_keep h (by decide)), fun h => H7.out (up_keep h (by decide)), fun h => H8.out (up_keep h (by decide)), fun h => H9.out (up_keep h (by decide)), fun h => H11.out (up_keep h (by decide)), fun h => H13.out (up_keep h (by decide))⟩
      · obtain ⟨x31, x32, x34, x35, x37, x38, x39, x40, x41, rfl, ⟨hB, hR, hE⟩, ⟨o1, o2, o3⟩, h1, h2, h4, h5, h7, h8, h9, h11, h13⟩ := hI
        have d4 := h4 (hdep { on := 4, ground := .data } (by simp) rfl)
        subst d4
        have H1 : Hid _ := h1
        have H2 : Hid _ := h2
        have H4 : Hid _ := h4
        have H5 : Hid _ := h5
        have H7 : Hid _ := h7
        have H8 : Hid _ := h8
        have H9 : Hid _ := h9
        have H11 : Hid _ := h11
        have H13 : Hid _ := h13
        have HE : Hid _ := hE
        have HO : Hid _ := (⟨o1, o2, o3⟩ : _ ∧ _ ∧ _)
        have HNI : Hid _ := hni
        have HSZ : Hid _ := hsz
        have HRR : Hid _ := hR
        have HBB : Hid _ := hB
        clear h1 h2 h4 h5 h7 h8 h9 h11 h13 hdep hE o1 o2 o3 hni hsz hR hB 
        go_simp
        refine Calls.mono (HCb.out _) ?_
        rintro r w2 ⟨rfl, hb⟩
        refine hK.out _ _ ⟨x31, x32, .string (strN e.body), .string (strN b), x37, x38, x39, x40, x41, rfl, ⟨HBB.out.trans (hb.mono HBB.out.size), HRR.out.later hb HRR.out.lt, by rw [set_other (by decide), set_other (by decide), set_other (by decide)]; exact HE.out.later hb HE.out.lt⟩, ⟨fun h => ⟨up_set (HO.out.1 (up_keep h (by decide))).1, up_set (HO.out.1 (up_keep h (by decide))).2.1, up_set (HO.out.1 (up_keep h (by decide))).2.2⟩, fun h => up_set (HO.out.2.1 (up_keep h (by decide))), fun h => up_set (HO.out.2.2 (up_keep h (by decide)))⟩, fun h => H1.out (up_keep h (by decide)), fun h => H2.out (up_keep h (by decide)), fun h => H4.out (up_keep h (by decide)), fun _ => rfl, fun h => H7.out (up_keep h (by decide)), fun h => H8.out (up_keep h (by decide)), fun h => H9.out (up_keep h (by decide)), fun h => H11.out (up_keep h (by decide)), fun h => H13.out (up_keep h (by decide))⟩
      · obtain ⟨x31, x32, x34, x35, x37, x38, x39, x40, x41, rfl, ⟨hB, hR, hE⟩, ⟨o1, o2, o3⟩, h1, h2, h4, h5, h7, h8, h9, h11, h13⟩ := hI
        have n10 : l.getD 10 false = false := by
          cases hq : l.getD 10 false with
          | false => rfl
          | true => have := (o1 hq).2.2; rw [hni] at this; cases this
        have n12 : l.getD 12 false = false := by
          cases hq : l.getD 12 false with
          | false => rfl
          | true => have := o2 hq; rw [n10] at this; cases this
        have n14 : l.getD 14 false = false := by
          cases hq : l.getD 14 false with
          | false => rfl
          | true => have := o3 hq; rw [n12] at this; cases this
        have hE2 : EntAt w' w.heap.size ⟨f, e.guid, e.title, [], e.body, e.time⟩ := by rw [n10, n12, n14] at hE; exact hE
        have hcell := hE2.cells.2.1
        clear n10 n12 n14 hE2
        have H1 : Hid _ := h1
        have H2 : Hid _ := h2
        have H4 : Hid _ := h4
        have H5 : Hid _ := h5
        have H7 : Hid _ := h7
        have H8 : Hid _ := h8
        have H9 : Hid _ := h9
        have H11 : Hid _ := h11
        have H13 : Hid _ := h13
        have HE : Hid _ := hE
        have HO : Hid _ := (⟨o1, o2, o3⟩ : _ ∧ _ ∧ _)
        have HNI : Hid _ := hni
        have HSZ : Hid _ := hsz
        have HRR : Hid _ := hR
        have HBB : Hid _ := hB
        clear h1 h2 h4 h5 h7 h8 h9 h11 h13 hdep hE o1 o2 o3 hni hsz hR hB 
        go_simp
        refine hK.out _ _ ⟨x31, x32, x34, x35, .string (strN e.guid), x38, x39, x40, x41, rfl, ⟨HBB.out, HRR.out, by rw [set_other (by decide), set_other (by decide), set_other (by decide)]; exact HE.out⟩, ⟨fun h => ⟨up_set (HO.out.1 (up_keep h (by decide))).1, up_set (HO.out.1 (up_keep h (by decide))).2.1, up_set (HO.out.1 (up_keep h (by decide))).2.2⟩, fun h => up_set (HO.out.2.1 (up_keep h (by decide))), fun h => up_set (HO.out.2.2 (up_keep h (by decide)))⟩, fun h => H1.out (up_keep h (by decide)), fun h => H2.out (up_keep h (by decide)), fun h => H4.out (up_keep h (by decide)), fun h => H5.out (up_keep h (by decide)), fun _ => rfl, fun h => H8.out (up_keep h (by decide)), fun h => H9.out (up_keep h (by decide)), fun h => H11.out (up_keep h (by decide)), fun h => H13.out (up_keep h (by decide))⟩
      · obtain ⟨x31, x32, x34, x35, x37, x38, x39, x40, x41, rfl, ⟨hB, hR, hE⟩, ⟨o1, o2, o3⟩, h1, h2, h4, h5, h7, h8, h9, h11, h13⟩ := hI
        have d7 := h7 (hdep { on := 7, ground := .data } (by simp) rfl)
        subst d7
        have H1 : Hid _ := h1
        have H2 : Hid _ := h2
        have H4 : Hid _ := h4
        have H5 : Hid _ := h5
        have H7 : Hid _ := h7
        have H8 : Hid _ := h8
        have H9 : Hid _ := h9
        have H11 : Hid _ := h11
        have H13 : Hid _ := h13
        have HE : Hid _ := hE
        have HO : Hid _ := (⟨o1, o2, o3⟩ : _ ∧ _ ∧ _)
        have HNI : Hid _ := hni
        have HSZ : Hid _ := hsz
        have HRR : Hid _ := hR
        have HBB : Hid _ := hB
        clear h1 h2 h4 h5 h7 h8 h9 h11 h13 hdep hE o1 o2 o3 hni hsz hR hB 
        go_simp
        refine Calls.mono (HCg.out _) ?_
        rintro r w2 ⟨rfl, hb⟩
        refine hK.out _ _ ⟨x31, x32, x34, x35, .string (strN e.guid), .string (strN g), x39, x40, x41, rfl, ⟨HBB.out.trans (hb.mono HBB.out.size), HRR.out.later hb HRR.out.lt, by rw [set_other (by decide), set_other (by decide), set_other (by decide)]; exact HE.out.later hb HE.out.lt⟩, ⟨fun h => ⟨up_set (HO.out.1 (up_keep h (by decide))).1, up_set (HO.out.1 (up_keep h (by decide))).2.1, up_set (HO.out.1 (up_keep h (by decide))).2.2⟩, fun h => up_set (HO.out.2.1 (up_keep h (by decide))), fun h => up_set (HO.out.2.2 (up_keep h (by decide)))⟩, fun h => H1.out (up_keep h (by decide)), fun h => H2.out (up_keep h (by decide)), fun h => H4.out (up_keep h (by decide)), fun h => H5.out (up_keep h (by decide)), fun h => H7.out (up_keep h (by decide)), fun _ => rfl, fun h => H9.out (up_keep h (by decide)), fun h => H11.out (up_keep h (by decide)), fun h => H13.out (up_keep h (by decide))⟩
      · obtain ⟨x31, x32, x34, x35, x37, x38, x39, x40, x41, rfl, ⟨hB, hR, hE⟩, ⟨o1, o2, o3⟩, h1, h2, h4, h5, h7, h8, h9, h11, h13⟩ := hI
        have H1 : Hid _ := h1
        have H2 : Hid _ := h2
        have H4 : Hid _ := h4
        have H5 : Hid _ := h5
        have H7 : Hid _ := h7
        have H8 : Hid _ := h8
        have H9 : Hid _ := h9
        have H11 : Hid _ := h11
        have H13 : Hid _ := h13
        have HE : Hid _ := hE
        have HO : Hid _ := (⟨o1, o2, o3⟩ : _ ∧ _ ∧ _)
        have HNI : Hid _ := hni
        have HSZ : Hid _ := hsz
        have HRR : Hid _ := hR
        have HBB : Hid _ := hB
        clear h1 h2 h4 h5 h7 h8 h9 h11 h13 hdep hE o1 o2 o3 hni hsz hR hB 
        go_simp
        refine hK.out _ _ ⟨x31, x32, x34, x35, x37, x38, .pointer (some ⟨w.heap.size, 2, none⟩), x40, x41, rfl, ⟨HBB.out, HRR.out, by rw [set_other (by decide), set_other (by decide), set_other (by decide)]; exact HE.out⟩, ⟨fun h => ⟨up_set (HO.out.1 (up_keep h (by decide))).1, up_set (HO.out.1 (up_keep h (by decide))).2.1, up_set (HO.out.1 (up_keep h (by decide))).2.2⟩, fun h => up_set (HO.out.2.1 (up_keep h (by decide))), fun h => up_set (HO.out.2.2 (up_keep h (by decide)))⟩, fun h => H1.out (up_keep h (by decide)), fun h => H2.out (up_keep h (by decide)), fun h => H4.out (up_keep h (by decide)), fun h => H5.out (up_keep h (by decide)), fun h => H7.out (up_keep h (by decide)), fun h => H8.out (up_keep h (by decide)), fun _ => rfl, fun h => H11.out (up_keep h (by decide)), fun h => H13.out (up_keep h (by decide))⟩
      · obtain ⟨x31, x32, x34, x35, x37, x38, x39, x40, x41, rfl, ⟨hB, hR, hE⟩, ⟨o1, o2, o3⟩, h1, h2, h4, h5, h7, h8, h9, h11, h13⟩ := hI
        have d9 := h9 (hdep { on := 9, ground := .data } (by simp) rfl)
        subst d9
        have d2 := h2 (hdep { on := 2, ground := .data } (by simp) rfl)
        subst d2
        have q1 := hdep { on := 1, ground := .phase } (by simp) rfl
        have q4 := hdep { on := 4, ground := .phase } (by simp) rfl
        have q7 := hdep { on := 7, ground := .phase } (by simp) rfl
        have hcell := hE.cells.2.2.1
        have hfz := hE.frozen 2
        have H1 : Hid _ := h1
        have H2 : Hid _ := h2
        have H4 : Hid _ := h4
        have H5 : Hid _ := h5
        have H7 : Hid _ := h7
        have H8 : Hid _ := h8
        have H9 : Hid _ := h9
        have H11 : Hid _ := h11
        have H13 : Hid _ := h13
        have HE : Hid _ := hE
        have HO : Hid _ := (⟨o1, o2, o3⟩ : _ ∧ _ ∧ _)
        have HNI : Hid _ := hni
        have HSZ : Hid _ := hsz
        have HRR : Hid _ := hR
        have HBB : Hid _ := hB
        have Qq1 : Hid _ := q1
        have Qq4 : Hid _ := q4
        have Qq7 : Hid _ := q7
        clear h1 h2 h4 h5 h7 h8 h9 h11 h13 hdep hE o1 o2 o3 hni hsz hR hB q1 q4 q7
        go_simp
        refine hK.out _ _ ⟨x31, .string (strN t), x34, x35, x37, x38, .pointer (some ⟨w.heap.size, 2, none⟩), x40, x41, rfl, ⟨HBB.out.setCell (by show w.heap.size ≤ w.heap.size; exact Nat.le_refl _) _, ⟨Arr.set_other HRR.out.arr _ (by show G2 ≠ w.heap.size; have := HGs.out; omega) _⟩, by
          rw [set_other (by decide), set_self (by rw [HSZ.out]; decide), set_other (by decide)]
          have hs := Arr.set HE.out.arr 2 (.string (strN t))
          rw [HNI.out] at hs
          exact ⟨hs⟩⟩, ⟨fun _ => ⟨up_set Qq1.out, up_set Qq4.out, up_set Qq7.out⟩, fun h => up_set (HO.out.2.1 (up_keep h (by decide))), fun h => up_set (HO.out.2.2 (up_keep h (by decide)))⟩, fun h => H1.out (up_keep h (by decide)), fun h => H2.out (up_keep h (by decide)), fun h => H4.out (up_keep h (by decide)), fun h => H5.out (up_keep h (by decide)), fun h => H7.out (up_keep h (by decide)), fun h => H8.out (up_keep h (by decide)), fun h => H9.out (up_keep h (by decide)), fun h => H11.out (up_keep h (by decide)), fun h => H13.out (up_keep h (by decide))⟩
      · obtain ⟨x31, x32, x34, x35, x37, x38, x39, x40, x41, rfl, ⟨hB, hR, hE⟩, ⟨o1, o2, o3⟩, h1, h2, h4, h5, h7, h8, h9, h11, h13⟩ := hI
        have H1 : Hid _ := h1
        have H2 : Hid _ := h2
        have H4 : Hid _ := h4
        have H5 : Hid _ := h5
        have H7 : Hid _ := h7
        have H8 : Hid _ := h8
        have H9 : Hid _ := h9
        have H11 : Hid _ := h11
        have H13 : Hid _ := h13
        have HE : Hid _ := hE
        have HO : Hid _ := (⟨o1, o2, o3⟩ : _ ∧ _ ∧ _)
        have HNI : Hid _ := hni
        have HSZ : Hid _ := hsz
        have HRR : Hid _ := hR
        have HBB : Hid _ := hB
        clear h1 h2 h4 h5 h7 h8 h9 h11 h13 hdep hE o1 o2 o3 hni hsz hR hB 
        go_simp
        refine hK.out _ _ ⟨x31, x32, x34, x35, x37, x38, x39, .pointer (some ⟨w.heap.size, 4, none⟩), x41, rfl, ⟨HBB.out, HRR.out, by rw [set_other (by decide), set_other (by decide), set_other (by decide)]; exact HE.out⟩, ⟨fun h => ⟨up_set (HO.out.1 (up_keep h (by decide))).1, up_set (HO.out.1 (up_keep h (by decide))).2.1, up_set (HO.out.1 (up_keep h (by decide))).2.2⟩, fun h => up_set (HO.out.2.1 (up_keep h (by decide))), fun h => up_set (HO.out.2.2 (up_keep h (by decide)))⟩, fun h => H1.out (up_keep h (by decide)), fun h => H2.out (up_keep h (by decide)), fun h => H4.out (up_keep h (by decide)), fun h => H5.out (up_keep h (by decide)), fun h => H7.out (up_keep h (by decide)), fun h => H8.out (up_keep h (by decide)), fun h => H9.out (up_keep h (by decide)), fun _ => rfl, fun h => H13.out (up_keep h (by decide))⟩
      · obtain ⟨x31, x32, x34, x35, x37, x38, x39, x40, x41, rfl, ⟨hB, hR, hE⟩, ⟨o1, o2, o3⟩, h1, h2, h4, h5, h7, h8, h9, h11, h13⟩ := hI
        have d11 := h11 (hdep { on := 11, ground := .data } (by simp) rfl)
        subst d11
        have d5 := h5 (hdep { on := 5, ground := .data } (by simp) rfl)
        subst d5
        have q10 := hdep { on := 10, ground := .chain } (by simp) rfl
        have hcell := hE.cells.2.2.2.2.1
        have hfz := hE.frozen 4
        have H1 : Hid _ := h1
        have H2 : Hid _ := h2
        have H4 : Hid _ := h4
        have H5 : Hid _ := h5
        have H7 : Hid _ := h7
        have H8 : Hid _ := h8
        have H9 : Hid _ := h9
        have H11 : Hid _ := h11
        have H13 : Hid _ := h13
        have HE : Hid _ := hE
        have HO : Hid _ := (⟨o1, o2, o3⟩ : _ ∧ _ ∧ _)
        have HNI : Hid _ := hni
        have HSZ : Hid _ := hsz
        have HRR : Hid _ := hR
        have HBB : Hid _ := hB
        have Qq10 : Hid _ := q10
        clear h1 h2 h4 h5 h7 h8 h9 h11 h13 hdep hE o1 o2 o3 hni hsz hR hB q10
        go_simp
        refine hK.out _ _ ⟨x31, x32, x34, .string (strN b), x37, x38, x39, .pointer (some ⟨w.heap.size, 4, none⟩), x41, rfl, ⟨HBB.out.setCell (by show w.heap.size ≤ w.heap.size; exact Nat.le_refl _) _, ⟨Arr.set_other HRR.out.arr _ (by show G2 ≠ w.heap.size; have := HGs.out; omega) _⟩, by
          rw [set_other (by decide), set_other (by decide), set_self (by rw [HSZ.out]; decide)]
          have hs := Arr.set HE.out.arr 4 (.string (strN b))
          rw [HNI.out] at hs
          exact ⟨hs⟩⟩, ⟨fun h => ⟨up_set (HO.out.1 (up_keep h (by decide))).1, up_set (HO.out.1 (up_keep h (by decide))).2.1, up_set (HO.out.1 (up_keep h (by decide))).2.2⟩, fun _ => up_set Qq10.out, fun h => up_set (HO.out.2.2 (up_keep h (by decide)))⟩, fun h => H1.out (up_keep h (by decide)), fun h => H2.out (up_keep h (by decide)), fun h => H4.out (up_keep h (by decide)), fun h => H5.out (up_keep h (by decide)), fun h => H7.out (up_keep h (by decide)), fun h => H8.out (up_keep h (by decide)), fun h => H9.out (up_keep h (by decide)), fun h => H11.out (up_keep h (by decide)), fun h => H13.out (up_keep h (by decide))⟩
      · obtain ⟨x31, x32, x34, x35, x37, x38, x39, x40, x41, rfl, ⟨hB, hR, hE⟩, ⟨o1, o2, o3⟩, h1, h2, h4, h5, h7, h8, h9, h11, h13⟩ := hI
        have H1 : Hid _ := h1
        have H2 : Hid _ := h2
        have H4 : Hid _ := h4
        have H5 : Hid _ := h5
        have H7 : Hid _ := h7
        have H8 : Hid _ := h8
        have H9 : Hid _ := h9
        have H11 : Hid _ := h11
        have H13 : Hid _ := h13
        have HE : Hid _ := hE
        have HO : Hid _ := (⟨o1, o2, o3⟩ : _ ∧ _ ∧ _)
        have HNI : Hid _ := hni
        have HSZ : Hid _ := hsz
        have HRR : Hid _ := hR
        have HBB : Hid _ := hB
        clear h1 h2 h4 h5 h7 h8 h9 h11 h13 hdep hE o1 o2 o3 hni hsz hR hB 
        go_simp
        refine hK.out _ _ ⟨x31, x32, x34, x35, x37, x38, x39, x40, .pointer (some ⟨w.heap.size, 1, none⟩), rfl, ⟨HBB.out, HRR.out, by rw [set_other (by decide), set_other (by decide), set_other (by decide)]; exact HE.out⟩, ⟨fun h => ⟨up_set (HO.out.1 (up_keep h (by decide))).1, up_set (HO.out.1 (up_keep h (by decide))).2.1, up_set (HO.out.1 (up_keep h (by decide))).2.2⟩, fun h => up_set (HO.out.2.1 (up_keep h (by decide))), fun h => up_set (HO.out.2.2 (up_keep h (by decide)))⟩, fun h => H1.out (up_keep h (by decide)), fun h => H2.out (up_keep h (by decide)), fun h => H4.out (up_keep h (by decide)), fun h => H5.out (up_keep h (by decide)), fun h => H7.out (up_keep h (by decide)), fun h => H8.out (up_keep h (by decide)), fun h => H9.out (up_keep h (by decide)), fun h => H11.out (up_keep h (by decide)), fun _ => rfl⟩
      · obtain ⟨x31, x32, x34, x35, x37, x38, x39, x40, x41, rfl, ⟨hB, hR, hE⟩, ⟨o1, o2, o3⟩, h1, h2, h4, h5, h7, h8, h9, h11, h13⟩ := hI
        have d13 := h13 (hdep { on := 13, ground := .data } (by simp) rfl)
        subst d13
        have d8 := h8 (hdep { on := 8, ground := .data } (by simp) rfl)
        subst d8
        have q12 := hdep { on := 12, ground := .chain } (by simp) rfl
        have hcell := hE.cells.2.1
        have hfz := hE.frozen 1
        have H1 : Hid _ := h1
        have H2 : Hid _ := h2
        have H4 : Hid _ := h4
        have H5 : Hid _ := h5
        have H7 : Hid _ := h7
        have H8 : Hid _ := h8
        have H9 : Hid _ := h9
        have H11 : Hid _ := h11
        have H13 : Hid _ := h13
        have HE : Hid _ := hE
        have HO : Hid _ := (⟨o1, o2, o3⟩ : _ ∧ _ ∧ _)
        have HNI : Hid _ := hni
        have HSZ : Hid _ := hsz
        have HRR : Hid _ := hR
        have HBB : Hid _ := hB
        have Qq12 : Hid _ := q12
        clear h1 h2 h4 h5 h7 h8 h9 h11 h13 hdep hE o1 o2 o3 hni hsz hR hB q12
        go_simp
        refine hK.out _ _ ⟨x31, x32, x34, x35, x37, .string (strN g), x39, x40, .pointer (some ⟨w.heap.size, 1, none⟩), rfl, ⟨HBB.out.setCell (by show w.heap.size ≤ w.heap.size; exact Nat.le_refl _) _, ⟨Arr.set_other HRR.out.arr _ (by show G2 ≠ w.heap.size; have := HGs.out; omega) _⟩, by
          rw [set_self (by rw [HSZ.out]; decide), set_other (by decide), set_other (by decide)]
          have hs := Arr.set HE.out.arr 1 (.string (strN g))
          rw [HNI.out] at hs
          exact ⟨hs⟩⟩, ⟨fun h => ⟨up_set (HO.out.1 (up_keep h (by decide))).1, up_set (HO.out.1 (up_keep h (by decide))).2.1, up_set (HO.out.1 (up_keep h (by decide))).2.2⟩, fun h => up_set (HO.out.2.1 (up_keep h (by decide))), fun _ => up_set Qq12.out⟩, fun h => H1.out (up_keep h (by decide)), fun h => H2.out (up_keep h (by decide)), fun h => H4.out (up_keep h (by decide)), fun h => H5.out (up_keep h (by decide)), fun h => H7.out (up_keep h (by decide)), fun h => H8.out (up_keep h (by decide)), fun h => H9.out (up_keep h (by decide)), fun h => H11.out (up_keep h (by decide)), fun h => H13.out (up_keep h (by decide))⟩
    · simp only [Act.put, List.setIfInBounds_toArray, List.set_cons_zero, List.set_cons_succ]
      rintro l a w3 ⟨x31, x32, x34, x35, x37, x38, x39, x40, x41, rfl, ⟨hB, hR, hE⟩, _, h1, h2, h4, h5, h7, h8, h9, h11, h13⟩ hall
      have e31 := h1 (hall 1 (by decide))
      have e32 := h2 (hall 2 (by decide))
      have e34 := h4 (hall 4 (by decide))
      have e35 := h5 (hall 5 (by decide))
      have e37 := h7 (hall 7 (by decide))
      have e38 := h8 (hall 8 (by decide))
      have e39 := h9 (hall 9 (by decide))
      have e40 := h11 (hall 11 (by decide))
      have e41 := h13 (hall 13 (by decide))
      rw [hall 14 (by decide), hall 10 (by decide), hall 12 (by decide)] at hE
      subst e31
      subst e32
      subst e34
      subst e35
      subst e37
      subst e38
      subst e39
      subst e40
      subst e41
      have HE3 : Hid (EntAt w3 w.heap.size ⟨f, g, t, [], b, e.time⟩) := hE
      have HR3 : Hid _ := hR
      have HB3 : Hid _ := hB
      clear h1 h2 h4 h5 h7 h8 h9 h11 h13 hall hE hR hB h0
      obtain ⟨c0, c1, c2, c3, c4, c5⟩ := HE3.out.cells
      have hf1 := HE3.out.frozen 1
      have hlt5 := HE3.out.lt
      clear HE9 HR9 HB9
      by_cases hg : g = []
      · have eg : ((strN g).toList == ([] : List UInt8)) = true := by rw [strN_nil_eq g hgb]; simp [hg]
        have HG : Hid _ := hg
        have hq : EntMath.guidOf g [] t = t := by unfold EntMath.guidOf; rw [if_pos hg, if_pos rfl]
        rw [hq] at HQ0
        have eZ : ((strN ([] : List Nat)).toList == ([] : List UInt8)) = true := by rw [strN_nil_eq [] (by simp)]; rfl
        have HE4 : Hid (EntAt (w3.setCell ⟨w.heap.size, 1, none⟩ (.string (strN []))) w.heap.size ⟨f, [], t, [], b, e.time⟩) := ⟨Arr.set HE3.out.arr 1 _⟩
        have HE5 : Hid (EntAt ((w3.setCell ⟨w.heap.size, 1, none⟩ (.string (strN []))).setCell ⟨w.heap.size, 1, none⟩ (.string (strN t))) w.heap.size ⟨f, t, t, [], b, e.time⟩) := ⟨Arr.set HE4.out.arr 1 _⟩
        have HR5 : Hid (EntAt ((w3.setCell ⟨w.heap.size, 1, none⟩ (.string (strN []))).setCell ⟨w.heap.size, 1, none⟩ (.string (strN t))) G2 EntMath.zero) := ⟨Arr.set_other (Arr.set_other HR3.out.arr _ (by show G2 ≠ w.heap.size; have := HGs.out; omega) _) _ (by show G2 ≠ w.heap.size; have := HGs.out; omega) _⟩
        have HB5 : Hid (Below w.heap.size w ((w3.setCell ⟨w.heap.size, 1, none⟩ (.string (strN []))).setCell ⟨w.heap.size, 1, none⟩ (.string (strN t)))) := (HB3.out.setCell (Nat.le_refl _) _).setCell (Nat.le_refl _) _
        have hf1b := HE4.out.frozen 1
        clear hq hg
        have hNb : ∀ c ∈ t, c < 256 := by first | exact hgb | exact htb | exact hllb
        have hNl : (t).length ≤ 50000 := by omega
        have HRu : Hid (∀ w, _) := fun w => refRunes_any t w hNb (by omega)
        by_cases hE : t = []
        · have HQ : Hid _ := HQ0.out.trans (if_pos hE)
          have eN : ((strN t).toList == ([] : List UInt8)) = true := by rw [strN_nil_eq t hNb]; simp [hE]
          clear hE HQ0 hNb hNl
          go_wp2_with (refine wpList_store_ent rfl (.tmp 2) (.tmp 58) rfl G2 EntMath.zero EntMath.zero rfl rfl HR5.out ?_)
          refine ret_ent G2 EntMath.zero (.int .i64 26) rfl rfl rfl (EntAt.row HR5.out) rfl ⟨by rw [HQ.out]; rfl, below_setRow HB5.out (Nat.le_of_lt HGs.out) _⟩
        · have HQ1 : Hid _ := HQ0.out.trans (if_neg hE)
          have eN : ((strN t).toList == ([] : List UInt8)) = false := by rw [strN_nil_eq t hNb]; simp [hE]
          clear hE HQ0 hNb hNl
          go_wp2_with fail
          refine Calls.mono (HRu.out _) ?_
          rintro r w6 ⟨v1, rfl, ho1, hb⟩
          obtain ⟨a1, q1, rfl, hc1, hm1, _, hr1⟩ := ho1.shape
          rw [iv_len] at hc1 ⊢
          have HE6 : Hid _ := HE5.out.later hb HE5.out.lt
          have HR6 : Hid _ := HR5.out.later hb HR5.out.lt
          have HB6 : Hid _ := HB5.out.trans (hb.mono HB5.out.size)
          clear ho1 hb hr1 hm1 hc1 HE5 HR5 HB5 c0 c1 c2 c3 c4 c5 hlt5
          obtain ⟨c0, c1, c2, c3, c4, c5⟩ := HE6.out.cells
          have hlt6 := HE6.out.lt
          generalize (TxtMath.runes t).length = n at *
          by_cases hn : 200 < n
          · have HQ : Hid _ := HQ1.out.trans (if_pos hn)
            have hn2 : (200 : Int) < (n : Int) := by omega
            clear HQ1
            go_wp2_with (refine wpList_store_ent rfl (.tmp 2) (.tmp 65) rfl G2 EntMath.zero EntMath.zero rfl rfl HR6.out ?_)
            refine ret_ent G2 EntMath.zero (.int .i64 23) rfl rfl rfl (EntAt.row HR6.out) rfl ⟨by rw [HQ.out]; rfl, below_setRow HB6.out (Nat.le_of_lt HGs.out) _⟩
          · have HQ2 : Hid _ := HQ1.out.trans (if_neg hn)
            have hn2 : (n : Int) ≤ 200 := by omega
            have hn3 : n ≤ 200 := by omega
            clear HQ1 hn
            by_cases htm : e.time < 0 ∨ 281474976710655 < e.time
            · have HQ : Hid _ := HQ2.out.trans (if_pos htm)
              clear HQ2
              rcases htm with htm | htm
              · go_wp2_with (refine wpList_store_ent rfl (.tmp 2) (.tmp 75) rfl G2 EntMath.zero EntMath.zero rfl rfl HR6.out ?_)
                refine ret_ent G2 EntMath.zero (.int .i64 24) rfl rfl rfl (EntAt.row HR6.out) rfl ⟨by rw [HQ.out]; rfl, below_setRow HB6.out (Nat.le_of_lt HGs.out) _⟩
              · have htm0 : 0 ≤ e.time := by omega
                go_wp2_with (refine wpList_store_ent rfl (.tmp 2) (.tmp 75) rfl G2 EntMath.zero EntMath.zero rfl rfl HR6.out ?_)
                refine ret_ent G2 EntMath.zero (.int .i64 24) rfl rfl rfl (EntAt.row HR6.out) rfl ⟨by rw [HQ.out]; rfl, below_setRow HB6.out (Nat.le_of_lt HGs.out) _⟩
            · have HQ : Hid _ := HQ2.out.trans (if_neg htm)
              have htm0 : 0 ≤ e.time := by omega
              have htm1 : e.time ≤ 281474976710655 := by omega
              clear HQ2 htm
              go_wp2_with (refine wpList_store_ent rfl (.tmp 2) (.tmp 76) rfl G2 EntMath.zero ⟨f, t, t, [], b, e.time⟩ rfl rfl HR6.out ?_)
              refine ret_ent G2 ⟨f, t, t, [], b, e.time⟩ (.int .i64 0) rfl rfl rfl (EntAt.row HR6.out) rfl ⟨by rw [HQ.out]; rfl, below_setRow HB6.out (Nat.le_of_lt HGs.out) _⟩
      · have eg : ((strN g).toList == ([] : List UInt8)) = false := by rw [strN_nil_eq g hgb]; simp [hg]
        have hq : EntMath.guidOf g [] t = g := by unfold EntMath.guidOf; rw [if_neg hg]
        rw [hq] at HQ0
        have HE5 : Hid (EntAt w3 w.heap.size ⟨f, g, t, [], b, e.time⟩) := HE3.out
        have HR5 : Hid _ := HR3.out
        have HB5 : Hid _ := HB3.out
        clear hq
        have hNb : ∀ c ∈ g, c < 256 := by first | exact hgb | exact htb | exact hllb
        have hNl : (g).length ≤ 50000 := by omega
        have HRu : Hid (∀ w, _) := fun w => refRunes_any g w hNb (by omega)
        by_cases hE : g = []
        · exact absurd hE hg
        · have HQ1 : Hid _ := HQ0.out.trans (if_neg hE)
          have eN : ((strN g).toList == ([] : List UInt8)) = false := by rw [strN_nil_eq g hNb]; simp [hE]
          clear hE HQ0 hNb hNl
          clear eN
          go_wp2_with fail
          refine Calls.mono (HRu.out _) ?_
          rintro r w6 ⟨v1, rfl, ho1, hb⟩
          obtain ⟨a1, q1, rfl, hc1, hm1, _, hr1⟩ := ho1.shape
          rw [iv_len] at hc1 ⊢
          have HE6 : Hid _ := HE5.out.later hb HE5.out.lt
          have HR6 : Hid _ := HR5.out.later hb HR5.out.lt
          have HB6 : Hid _ := HB5.out.trans (hb.mono HB5.out.size)
          clear ho1 hb hr1 hm1 hc1 HE5 HR5 HB5 c0 c1 c2 c3 c4 c5 hlt5
          obtain ⟨c0, c1, c2, c3, c4, c5⟩ := HE6.out.cells
          have hlt6 := HE6.out.lt
          generalize (TxtMath.runes g).length = n at *
          by_cases hn : 200 < n
          · have HQ : Hid _ := HQ1.out.trans (if_pos hn)
            have hn2 : (200 : Int) < (n : Int) := by omega
            clear HQ1
            go_wp2_with (refine wpList_store_ent rfl (.tmp 2) (.tmp 65) rfl G2 EntMath.zero EntMath.zero rfl rfl HR6.out ?_)
            refine ret_ent G2 EntMath.zero (.int .i64 23) rfl rfl rfl (EntAt.row HR6.out) rfl ⟨by rw [HQ.out]; rfl, below_setRow HB6.out (Nat.le_of_lt HGs.out) _⟩
          · have HQ2 : Hid _ := HQ1.out.trans (if_neg hn)
            have hn2 : (n : Int) ≤ 200 := by omega
            have hn3 : n ≤ 200 := by omega
            clear HQ1 hn
            by_cases htm : e.time < 0 ∨ 281474976710655 < e.time
            · have HQ : Hid _ := HQ2.out.trans (if_pos htm)
              clear HQ2
              rcases htm with htm | htm
              · go_wp2_with (refine wpList_store_ent rfl (.tmp 2) (.tmp 75) rfl G2 EntMath.zero EntMath.zero rfl rfl HR6.out ?_)
                refine ret_ent G2 EntMath.zero (.int .i64 24) rfl rfl rfl (EntAt.row HR6.out) rfl ⟨by rw [HQ.out]; rfl, below_setRow HB6.out (Nat.le_of_lt HGs.out) _⟩
              · have htm0 : 0 ≤ e.time := by omega
                go_wp2_with (refine wpList_store_ent rfl (.tmp 2) (.tmp 75) rfl G2 EntMath.zero EntMath.zero rfl rfl HR6.out ?_)
                refine ret_ent G2 EntMath.zero (.int .i64 24) rfl rfl rfl (EntAt.row HR6.out) rfl ⟨by rw [HQ.out]; rfl, below_setRow HB6.out (Nat.le_of_lt HGs.out) _⟩
            · have HQ : Hid _ := HQ2.out.trans (if_neg htm)
              have htm0 : 0 ≤ e.time := by omega
              have htm1 : e.time ≤ 281474976710655 := by omega
              clear HQ2 htm
              go_wp2_with (refine wpList_store_ent rfl (.tmp 2) (.tmp 76) rfl G2 EntMath.zero ⟨f, g, t, [], b, e.time⟩ rfl rfl HR6.out ?_)
              refine ret_ent G2 ⟨f, g, t, [], b, e.time⟩ (.int .i64 0) rfl rfl rfl (EntAt.row HR6.out) rfl ⟨by rw [HQ.out]; rfl, below_setRow HB6.out (Nat.le_of_lt HGs.out) _⟩
  · have eL2 : ((strN e.link).toList == ([] : List UInt8)) = false := by rw [eL]; simp [hlk]
    have HLQ : Hid (EntMath.linkP e.link = ((AddrMath.parse e.link).1, (AddrMath.parse e.link).2)) := HLP1.out hlk
    generalize (AddrMath.parse e.link).1 = l0 at *
    generalize (AddrMath.parse e.link).2 = kl at *
    clear eL hlk HLP0 HLP1
    go_wp2_with fail
    generalize w1.setCell ⟨w.heap.size, 0, none⟩ (.string (strN f)) = wp at *
    clear c0 c3 hf0 hlt1 HA1 HR1 HB1
    refine Calls.mono (HL.out _) ?_
    rintro r w2 ⟨rfl, hb⟩
    have HA3 : Hid _ := HA2.out.later hb HA2.out.lt
    have HR3 : Hid _ := HR2.out.later hb HR2.out.lt
    have HB3 : Hid _ := HB2.out.trans (hb.mono HB2.out.size)
    have c3 := HA3.out.cells.2.2.2.1
    have hf3 := HA3.out.frozen 3
    have hlt3 := HA3.out.lt
    have HE9 : Hid (EntAt (w2.setCell ⟨w.heap.size, 3, none⟩ (.string (strN l0))) w.heap.size ⟨f, e.guid, e.title, l0, e.body, e.time⟩) := ⟨Arr.set HA3.out.arr 3 _⟩
    have HR9 : Hid (EntAt (w2.setCell ⟨w.heap.size, 3, none⟩ (.string (strN l0))) G2 EntMath.zero) := ⟨Arr.set_other HR3.out.arr _ (by show G2 ≠ w.heap.size; have := HGs.out; omega) _⟩
    have HB9 : Hid (Below w.heap.size w (w2.setCell ⟨w.heap.size, 3, none⟩ (.string (strN l0)))) := HB3.out.setCell (Nat.le_refl _) _
    clear hb HA2 HR2 HB2 HA3 HR3 HB3 eL2
    obtain rfl | hk2 : kl = 0 ∨ 0 < kl := by omega
    rotate_left
    · have HQ : Hid (EntMath.clean e = (EntMath.zero, kl)) := by show _ = _; rw [HX.out, HLQ.out]; unfold EntMath.cleanG; rw [if_neg (by simp), if_pos (by simp; omega)]
      go_wp2_with (refine wpList_store_ent rfl (.tmp 2) (.tmp 28) rfl G2 EntMath.zero EntMath.zero rfl rfl HR9.out ?_)
      refine ret_ent G2 EntMath.zero (.int .i64 (kl : Int)) rfl rfl rfl (EntAt.row HR9.out) rfl ⟨by rw [HQ.out]; rfl, below_setRow HB9.out (Nat.le_of_lt HGs.out) _⟩
    have hLn : l0 ≠ [] := HLN.out rfl
    have eL0 : ((strN l0).toList == ([] : List UInt8)) = false := by rw [strN_nil_eq l0 hllb]; simp [hLn]
    go_wp2
    generalize w2.setCell ⟨w.heap.size, 3, none⟩ (.string (strN l0)) = wq at *
    clear c3 hf3 hlt3
    have HQ0 : Hid (EntMath.clean e = if EntMath.guidOf g l0 t = [] then (EntMath.zero, 26) else if 200 < (TxtMath.runes (EntMath.guidOf g l0 t)).length then (EntMath.zero, 23) else if e.time < 0 ∨ 281474976710655 < e.time then (EntMath.zero, 24) else (⟨f, EntMath.guidOf g l0 t, t, l0, b, e.time⟩, 0)) := by
      show _ = _
      rw [HX.out, HLQ.out]; unfold EntMath.cleanG; rw [if_neg (by simp), if_neg (by simp)]
    have h0 : ∀ (a : Act) (l : Array Bool) (w' : World), 42 ≤ a.tmps.size → l.getD 1 false = false → l.getD 2 false = false → l.getD 4 false = false → l.getD 5 false = false → l.getD 7 false = false → l.getD 8 false = false → l.getD 9 false = false → l.getD 10 false = false → l.getD 11 false = false → l.getD 12 false = false → l.getD 13 false = false → l.getD 14 false = false → Below w.heap.size w w' → EntAt w' G2 EntMath.zero → EntAt w' w.heap.size ⟨f, e.guid, e.title, l0, e.body, e.time⟩ → (fun a' l a w' => ∃ x31 x32 x34 x35 x37 x38 x39 x40 x41, a = (((((((((a'.put (some 31) x31).put (some 32) x32).put (some 34) x34).put (some 35) x35).put (some 37) x37).put (some 38) x38).put (some 39) x39).put (some 40) x40).put (some 41) x41) ∧ (Below w.heap.size w w' ∧ EntAt w' G2 EntMath.zero ∧ EntAt w' w.heap.size (mixE f e.guid g e.title t l0 e.body b e.time (l.getD 14 false) (l.getD 10 false) (l.getD 12 false))) ∧ ((l.getD 10 false = true → l.getD 1 false = true ∧ l.getD 4 false = true ∧ l.getD 7 false = true) ∧ (l.getD 12 false = true → l.getD 10 false = true) ∧ (l.getD 14 false = true → l.getD 12 false = true)) ∧ (l.getD 1 false = true → x31 = .string (strN e.title)) ∧ (l.getD 2 false = true → x32 = .string (strN t)) ∧ (l.getD 4 false = true → x34 = .string (strN e.body)) ∧ (l.getD 5 false = true → x35 = .string (strN b)) ∧ (l.getD 7 false = true → x37 = .string (strN e.guid)) ∧ (l.getD 8 false = true → x38 = .string (strN g)) ∧ (l.getD 9 false = true → x39 = .pointer (some ⟨w.heap.size, 2, none⟩)) ∧ (l.getD 11 false = true → x40 = .pointer (some ⟨w.heap.size, 4, none⟩)) ∧ (l.getD 13 false = true → x41 = .pointer (some ⟨w.heap.size, 1, none⟩))) a l a w' := by
      intro a l w' hsz n1 n2 n4 n5 n7 n8 n9 n10 n11 n12 n13 n14 hB hR hE
      refine ⟨a.tmps.getD 31 undef, a.tmps.getD 32 undef, a.tmps.getD 34 undef, a.tmps.getD 35 undef, a.tmps.getD 37 undef, a.tmps.getD 38 undef, a.tmps.getD 39 undef, a.tmps.getD 40 undef, a.tmps.getD 41 undef, by rw [put_self a 31 (by omega), put_self a 32 (by omega), put_self a 34 (by omega), put_self a 35 (by omega), put_self a 37 (by omega), put_self a 38 (by omega), put_self a 39 (by omega), put_self a 40 (by omega), put_self a 41 (by omega)], ⟨hB, hR, by rw [n10, n12, n14]; exact hE⟩, ⟨fun h => not_up n10 h, fun h => not_up n12 h, fun h => not_up n14 h⟩, not_up n1, not_up n2, not_up n4, not_up n5, not_up n7, not_up n8, not_up n9, not_up n11, not_up n13⟩
    refine wp_region_held_drew (S := fun _ => True) (by kernel_rfl) trivial (fun hS => ?_)
    refine wpAnyH_take (i := 0) (v := ?_) rfl (by kernel_rfl) (by kernel_rfl) (by kernel_rfl) (fun _ _ _ h => h) (Or.inl ⟨by rfl, ?_⟩) hS ?_
    rotate_left 1
    · intro w hSw; (try dsimp only at hSw); go_simp <;> with_reducible rfl
    simp only [List.getElem_toArray, List.getElem_cons_zero, List.getElem_cons_succ, Act.put, List.setIfInBounds_toArray, List.set_cons_zero, List.set_cons_succ]
    refine wpAnyH_take (i := 3) (v := ?_) rfl (by kernel_rfl) (by kernel_rfl) (by kernel_rfl) (fun _ _ _ h => h) (Or.inl ⟨by rfl, ?_⟩) hS ?_
    rotate_left 1
    · intro w hSw; (try dsimp only at hSw); go_simp <;> with_reducible rfl
    simp only [List.getElem_toArray, List.getElem_cons_zero, List.getElem_cons_succ, Act.put, List.setIfInBounds_toArray, List.set_cons_zero, List.set_cons_succ]
    refine wpAnyH_take (i := 6) (v := ?_) rfl (by kernel_rfl) (by kernel_rfl) (by kernel_rfl) (fun _ _ _ h => h) (Or.inl ⟨by rfl, ?_⟩) hS ?_
    rotate_left 1
    · intro w hSw; (try dsimp only at hSw); go_simp <;> with_reducible rfl
    simp only [List.getElem_toArray, List.getElem_cons_zero, List.getElem_cons_succ, Act.put, List.setIfInBounds_toArray, List.set_cons_zero, List.set_cons_succ]
    refine wpAnyH_invN_at (Rel := fun a' l a w' => ∃ x31 x32 x34 x35 x37 x38 x39 x40 x41, a = (((((((((a'.put (some 31) x31).put (some 32) x32).put (some 34) x34).put (some 35) x35).put (some 37) x37).put (some 38) x38).put (some 39) x39).put (some 40) x40).put (some 41) x41) ∧ (Below w.heap.size w w' ∧ EntAt w' G2 EntMath.zero ∧ EntAt w' w.heap.size (mixE f e.guid g e.title t l0 e.body b e.time (l.getD 14 false) (l.getD 10 false) (l.getD 12 false))) ∧ ((l.getD 10 false = true → l.getD 1 false = true ∧ l.getD 4 false = true ∧ l.getD 7 false = true) ∧ (l.getD 12 false = true → l.getD 10 false = true) ∧ (l.getD 14 false = true → l.getD 12 false = true)) ∧ (l.getD 1 false = true → x31 = .string (strN e.title)) ∧ (l.getD 2 false = true → x32 = .string (strN t)) ∧ (l.getD 4 false = true → x34 = .string (strN e.body)) ∧ (l.getD 5 false = true → x35 = .string (strN b)) ∧ (l.getD 7 false = true → x37 = .string (strN e.guid)) ∧ (l.getD 8 false = true → x38 = .string (strN g)) ∧ (l.getD 9 false = true → x39 = .pointer (some ⟨w.heap.size, 2, none⟩)) ∧ (l.getD 11 false = true → x40 = .pointer (some ⟨w.heap.size, 4, none⟩)) ∧ (l.getD 13 false = true → x41 = .pointer (some ⟨w.heap.size, 1, none⟩))) (rs := [1, 2, 4, 5, 7, 8, 9, 10, 11, 12, 13, 14]) (by kernel_rfl) (by kernel_rfl) (by kernel_rfl) (of_decide_eq_true (by kernel_rfl)) ?_ ?_ ?_
    · exact h0 _ _ _ (of_decide_eq_true (by kernel_rfl)) (by kernel_rfl) (by kernel_rfl) (by kernel_rfl) (by kernel_rfl) (by kernel_rfl) (by kernel_rfl) (by kernel_rfl) (by kernel_rfl) (by kernel_rfl) (by kernel_rfl) (by kernel_rfl) (by kernel_rfl) (HB9.out).drew (⟨Arr.drew (HR9.out).arr⟩) (⟨Arr.drew (HE9.out).arr⟩)
    · simp only [Act.put, List.setIfInBounds_toArray, List.set_cons_zero, List.set_cons_succ]
      refine InvStepsN.cons rfl (fun l a w' hsz hni hI hdep K hK => ?_) (InvStepsN.cons rfl (fun l a w' hsz hni hI hdep K hK => ?_) (InvStepsN.cons rfl (fun l a w' hsz hni hI hdep K hK => ?_) (InvStepsN.cons rfl (fun l a w' hsz hni hI hdep K hK => ?_) (InvStepsN.cons rfl (fun l a w' hsz hni hI hdep K hK => ?_) (InvStepsN.cons rfl (fun l a w' hsz hni hI hdep K hK => ?_) (InvStepsN.cons rfl (fun l a w' hsz hni hI hdep K hK => ?_) (InvStepsN.cons rfl (fun l a w' hsz hni hI hdep K hK => ?_) (InvStepsN.cons rfl (fun l a w' hsz hni hI hdep K hK => ?_) (InvStepsN.cons rfl (fun l a w' hsz hni hI hdep K hK => ?_) (InvStepsN.cons rfl (fun l a w' hsz hni hI hdep K hK => ?_) (InvStepsN.cons rfl (fun l a w' hsz hni hI hdep K hK => ?_) (InvStepsN.nil))))))))))))
      · obtain ⟨x31, x32, x34, x35, x37, x38, x39, x40, x41, rfl, ⟨hB, hR, hE⟩, ⟨o1, o2, o3⟩, h1, h2, h4, h5, h7, h8, h9, h11, h13⟩ := hI
        have n10 : l.getD 10 false = false := by
          cases hq : l.getD 10 false with
          | false => rfl
          | true => have := (o1 hq).1; rw [hni] at this; cases this
        have n12 : l.getD 12 false = false := by
          cases hq : l.getD 12 false with
          | false => rfl
          | true => have := o2 hq; rw [n10] at this; cases this
        have n14 : l.getD 14 false = false := by
          cases hq : l.getD 14 false with
          | false => rfl
          | true => have := o3 hq; rw [n12] at this; cases this
        have hE2 : EntAt w' w.heap.size ⟨f, e.guid, e.title, l0, e.body, e.time⟩ := by rw [n10, n12, n14] at hE; exact hE
        have hcell := hE2.cells.2.2.1
        clear n10 n12 n14 hE2
        have H1 : Hid _ := h1
        have H2 : Hid _ := h2
        have H4 : Hid _ := h4
        have H5 : Hid _ := h5
        have H7 : Hid _ := h7
        have H8 : Hid _ := h8
        have H9 : Hid _ := h9
        have H11 : Hid _ := h11
        have H13 : Hid _ := h13
        have HE : Hid _ := hE
        have HO : Hid _ := (⟨o1, o2, o3⟩ : _ ∧ _ ∧ _)
        have HNI : Hid _ := hni
        have HSZ : Hid _ := hsz
        have HRR : Hid _ := hR
        have HBB : Hid _ := hB
        clear h1 h2 h4 h5 h7 h8 h9 h11 h13 hdep hE o1 o2 o3 hni hsz hR hB 
        go_simp
        refine hK.out _ _ ⟨.string (strN e.title), x32, x34, x35, x37, x38, x39, x40, x41, rfl, ⟨HBB.out, HRR.out, by rw [set_other (by decide), set_other (by decide), set_other (by decide)]; exact HE.out⟩, ⟨fun h => ⟨up_set (HO.out.1 (up_keep h (by decide))).1, up_set (HO.out.1 (up_keep h (by decide))).2.1, up_set (HO.out.1 (up_keep h (by decide))).2.2⟩, fun h => up_set (HO.out.2.1 (up_keep h (by decide))), fun h => up_set (HO.out.2.2 (up_keep h (by decide)))⟩, fun _ => rfl, fun h => H2.out (up_keep h (by decide)), fun h => H4.out (up_keep h (by decide)), fun h => H5.out (up_keep h (by decide)), fun h => H7.out (up_keep h (by decide)), fun h => H8.out (up_keep h (by decide)), fun h => H9.out (up_keep h (by decide)), fun h => H11.out (up_keep h (by decide)), fun h => H13.out (up_keep h (by decide))⟩
      · obtain ⟨x31, x32, x34, x35, x37, x38, x39, x40, x41, rfl, ⟨hB, hR, hE⟩, ⟨o1, o2, o3⟩, h1, h2, h4, h5, h7, h8, h9, h11, h13⟩ := hI
        have d1 := h1 (hdep { on := 1, ground := .data } (by simp) rfl)
        subst d1
        have H1 : Hid _ := h1
        have H2 : Hid _ := h2
        have H4 : Hid _ := h4
        have H5 : Hid _ := h5
        have H7 : Hid _ := h7
        have H8 : Hid _ := h8
        have H9 : Hid _ := h9
        have H11 : Hid _ := h11
        have H13 : Hid _ := h13
        have HE : Hid _ := hE
        have HO : Hid _ := (⟨o1, o2, o3⟩ : _ ∧ _ ∧ _)
        have HNI : Hid _ := hni
        have HSZ : Hid _ := hsz
        have HRR : Hid _ := hR
        have HBB : Hid _ := hB
        clear h1 h2 h4 h5 h7 h8 h9 h11 h13 hdep hE o1 o2 o3 hni hsz hR hB 
        go_simp
        refine Calls.mono (HCt.out _) ?_
        rintro r w2 ⟨rfl, hb⟩
        refine hK.out _ _ ⟨.string (strN e.title), .string (strN t), x34, x35, x37, x38, x39, x40, x41, rfl, ⟨HBB.out.trans (hb.mono HBB.out.size), HRR.out.later hb HRR.out.lt, by rw [set_other (by decide), set_other (by decide), set_other (by decide)]; exact HE.out.later hb HE.out.lt⟩, ⟨fun h => ⟨up_set (HO.out.1 (up_keep h (by decide))).1, up_set (HO.out.1 (up_keep h (by decide))).2.1, up_set (HO.out.1 (up_keep h (by decide))).2.2⟩, fun h => up_set (HO.out.2.1 (up_keep h (by decide))), fun h => up_set (HO.out.2.2 (up_keep h (by decide)))⟩, fun h => H1.out (up_keep h (by decide)), fun _ => rfl, fun h => H4.out (up_keep h (by decide)), fun h => H5.out (up_keep h (by decide)), fun h => H7.out (up_keep h (by decide)), fun h => H8.out (up_keep h (by decide)), fun h => H9.out (up_keep h (by decide)), fun h => H11.out (up_keep h (by decide)), fun h => H13.out (up_keep h (by decide))⟩
      · obtain ⟨x31, x32, x34, x35, x37, x38, x39, x40, x41, rfl, ⟨hB, hR, hE⟩, ⟨o1, o2, o3⟩, h1, h2, h4, h5, h7, h8, h9, h11, h13⟩ := hI
        have n10 : l.getD 10 false = false := by
          cases hq : l.getD 10 false with
          | false => rfl
          | true => have := (o1 hq).2.1; rw [hni] at this; cases this
        have n12 : l.getD 12 false = false := by
          cases hq : l.getD 12 false with
          | false => rfl
          | true => have := o2 hq; rw [n10] at this; cases this
        have n14 : l.getD 14 false = false := by
          cases hq : l.getD 14 false with
          | false => rfl
          | true => have := o3 hq; rw [n12] at this; cases this
        have hE2 : EntAt w' w.heap.size ⟨f, e.guid, e.title, l0, e.body, e.time⟩ := by rw [n10, n12, n14] at hE; exact hE
        have hcell := hE2.cells.2.2.2.2.1
        clear n10 n12 n14 hE2
        have H1 : Hid _ := h1
        have H2 : Hid _ := h2
        have H4 : Hid _ := h4
        have H5 : Hid _ := h5
        have H7 : Hid _ := h7
        have H8 : Hid _ := h8
        have H9 : Hid _ := h9
        have H11 : Hid _ := h11
        have H13 : Hid _ := h13
        have HE : Hid _ := hE
        have HO : Hid _ := (⟨o1, o2, o3⟩ : _ ∧ _ ∧ _)
        have HNI : Hid _ := hni
        have HSZ : Hid _ := hsz
        have HRR : Hid _ := hR
        have HBB : Hid _ := hB
        clear h1 h2 h4 h5 h7 h8 h9 h11 h13 hdep hE o1 o2 o3 hni hsz hR hB 
        go_simp
        refine hK.out _ _ ⟨x31, x32, .string (strN e.body), x35, x37, x38, x39, x40, x41, rfl, ⟨HBB.out, HRR.out, by rw [set_other (by decide), set_other (by decide), set_other (by decide)]; exact HE.out⟩, ⟨fun h => ⟨up_set (HO.out.1 (up_keep h (by decide))).1, up_set (HO.out.1 (up_keep h (by decide))).2.1, up_set (HO.out.1 (up_keep h (by decide))).2.2⟩, fun h => up_set (HO.out.2.1 (up_keep h (by decide))), fun h => up_set (HO.out.2.2 (up_keep h (by decide)))⟩, fun h => H1.out (up_keep h (by decide)), fun h => H2.out (up_keep h (by decide)), fun _ => rfl, fun h => H5.out (up_keep h (by decide)), fun h => H7.out (up_keep h (by decide)), fun h => H8.out (up_keep h (by decide)), fun h => H9.out (up_keep h (by decide)), fun h => H11.out (up_keep h (by decide)), fun h => H13.out (up_keep h (by decide))⟩
      · obtain ⟨x31, x32, x34, x35, x37, x38, x39, x40, x41, rfl, ⟨hB, hR, hE⟩, ⟨o1, o2, o3⟩, h1, h2, h4, h5, h7, h8, h9, h11, h13⟩ := hI
        have d4 := h4 (hdep { on := 4, ground := .data } (by simp) rfl)
        subst d4
        have H1 : Hid _ := h1
        have H2 : Hid _ := h2
        have H4 : Hid _ := h4
        have H5 : Hid _ := h5
        have H7 : Hid _ := h7
        have H8 : Hid _ := h8
        have H9 : Hid _ := h9
        have H11 : Hid _ := h11
        have H13 : Hid _ := h13
        have HE : Hid _ := hE
        have HO : Hid _ := (⟨o1, o2, o3⟩ : _ ∧ _ ∧ _)
        have HNI : Hid _ := hni
        have HSZ : Hid _ := hsz
        have HRR : Hid _ := hR
        have HBB : Hid _ := hB
        clear h1 h2 h4 h5 h7 h8 h9 h11 h13 hdep hE o1 o2 o3 hni hsz hR hB 
        go_simp
        refine Calls.mono (HCb.out _) ?_
        rintro r w2 ⟨rfl, hb⟩
        refine hK.out _ _ ⟨x31, x32, .string (strN e.body), .string (strN b), x37, x38, x39, x40, x41, rfl, ⟨HBB.out.trans (hb.mono HBB.out.size), HRR.out.later hb HRR.out.lt, by rw [set_other (by decide), set_other (by decide), set_other (by decide)]; exact HE.out.later hb HE.out.lt⟩, ⟨fun h => ⟨up_set (HO.out.1 (up_keep h (by decide))).1, up_set (HO.out.1 (up_keep h (by decide))).2.1, up_set (HO.out.1 (up_keep h (by decide))).2.2⟩, fun h => up_set (HO.out.2.1 (up_keep h (by decide))), fun h => up_set (HO.out.2.2 (up_keep h (by decide)))⟩, fun h => H1.out (up_keep h (by decide)), fun h => H2.out (up_keep h (by decide)), fun h => H4.out (up_keep h (by decide)), fun _ => rfl, fun h => H7.out (up_keep h (by decide)), fun h => H8.out (up_keep h (by decide)), fun h => H9.out (up_keep h (by decide)), fun h => H11.out (up_keep h (by decide)), fun h => H13.out (up_keep h (by decide))⟩
      · obtain ⟨x31, x32, x34, x35, x37, x38, x39, x40, x41, rfl, ⟨hB, hR, hE⟩, ⟨o1, o2, o3⟩, h1, h2, h4, h5, h7, h8, h9, h11, h13⟩ := hI
        have n10 : l.getD 10 false = false := by
          cases hq : l.getD 10 false with
          | false => rfl
          | true => have := (o1 hq).2.2; rw [hni] at this; cases this
        have n12 : l.getD 12 false = false := by
          cases hq : l.getD 12 false with
          | false => rfl
          | true => have := o2 hq; rw [n10] at this; cases this
        have n14 : l.getD 14 false = false := by
          cases hq : l.getD 14 false with
          | false => rfl
          | true => have := o3 hq; rw [n12] at this; cases this
        have hE2 : EntAt w' w.heap.size ⟨f, e.guid, e.title, l0, e.body, e.time⟩ := by rw [n10, n12, n14] at hE; exact hE
        have hcell := hE2.cells.2.1
        clear n10 n12 n14 hE2
        have H1 : Hid _ := h1
        have H2 : Hid _ := h2
        have H4 : Hid _ := h4
        have H5 : Hid _ := h5
        have H7 : Hid _ := h7
        have H8 : Hid _ := h8
        have H9 : Hid _ := h9
        have H11 : Hid _ := h11
        have H13 : Hid _ := h13
        have HE : Hid _ := hE
        have HO : Hid _ := (⟨o1, o2, o3⟩ : _ ∧ _ ∧ _)
        have HNI : Hid _ := hni
        have HSZ : Hid _ := hsz
        have HRR : Hid _ := hR
        have HBB : Hid _ := hB
        clear h1 h2 h4 h5 h7 h8 h9 h11 h13 hdep hE o1 o2 o3 hni hsz hR hB 
        go_simp
        refine hK.out _ _ ⟨x31, x32, x34, x35, .string (strN e.guid), x38, x39, x40, x41, rfl, ⟨HBB.out, HRR.out, by rw [set_other (by decide), set_other (by decide), set_other (by decide)]; exact HE.out⟩, ⟨fun h => ⟨up_set (HO.out.1 (up_keep h (by decide))).1, up_set (HO.out.1 (up_keep h (by decide))).2.1, up_set (HO.out.1 (up_keep h (by decide))).2.2⟩, fun h => up_set (HO.out.2.1 (up_keep h (by decide))), fun h => up_set (HO.out.2.2 (up_keep h (by decide)))⟩, fun h => H1.out (up_keep h (by decide)), fun h => H2.out (up_keep h (by decide)), fun h => H4.out (up_keep h (by decide)), fun h => H5.out (up_keep h (by decide)), fun _ => rfl, fun h => H8.out (up_keep h (by decide)), fun h => H9.out (up_keep h (by decide)), fun h => H11.out (up_keep h (by decide)), fun h => H13.out (up_keep h (by decide))⟩
      · obtain ⟨x31, x32, x34, x35, x37, x38, x39, x40, x41, rfl, ⟨hB, hR, hE⟩, ⟨o1, o2, o3⟩, h1, h2, h4, h5, h7, h8, h9, h11, h13⟩ := hI
        have d7 := h7 (hdep { on := 7, ground := .data } (by simp) rfl)
        subst d7
        have H1 : Hid _ := h1
        have H2 : Hid _ := h2
        have H4 : Hid _ := h4
        have H5 : Hid _ := h5
        have H7 : Hid _ := h7
        have H8 : Hid _ := h8
        have H9 : Hid _ := h9
        have H11 : Hid _ := h11
        have H13 : Hid _ := h13
        have HE : Hid _ := hE
        have HO : Hid _ := (⟨o1, o2, o3⟩ : _ ∧ _ ∧ _)
        have HNI : Hid _ := hni
        have HSZ : Hid _ := hsz
        have HRR : Hid _ := hR
        have HBB : Hid _ := hB
        clear h1 h2 h4 h5 h7 h8 h9 h11 h13 hdep hE o1 o2 o3 hni hsz hR hB 
        go_simp
        refine Calls.mono (HCg.out _) ?_
        rintro r w2 ⟨rfl, hb⟩
        refine hK.out _ _ ⟨x31, x32, x34, x35, .string (strN e.guid), .string (strN g), x39, x40, x41, rfl, ⟨HBB.out.trans (hb.mono HBB.out.size), HRR.out.later hb HRR.out.lt, by rw [set_other (by decide), set_other (by decide), set_other (by decide)]; exact HE.out.later hb HE.out.lt⟩, ⟨fun h => ⟨up_set (HO.out.1 (up_keep h (by decide))).1, up_set (HO.out.1 (up_keep h (by decide))).2.1, up_set (HO.out.1 (up_keep h (by decide))).2.2⟩, fun h => up_set (HO.out.2.1 (up_keep h (by decide))), fun h => up_set (HO.out.2.2 (up_keep h (by decide)))⟩, fun h => H1.out (up_keep h (by decide)), fun h => H2.out (up_keep h (by decide)), fun h => H4.out (up_keep h (by decide)), fun h => H5.out (up_keep h (by decide)), fun h => H7.out (up_keep h (by decide)), fun _ => rfl, fun h => H9.out (up_keep h (by decide)), fun h => H11.out (up_keep h (by decide)), fun h => H13.out (up_keep h (by decide))⟩
      · obtain ⟨x31, x32, x34, x35, x37, x38, x39, x40, x41, rfl, ⟨hB, hR, hE⟩, ⟨o1, o2, o3⟩, h1, h2, h4, h5, h7, h8, h9, h11, h13⟩ := hI
        have H1 : Hid _ := h1
        have H2 : Hid _ := h2
        have H4 : Hid _ := h4
        have H5 : Hid _ := h5
        have H7 : Hid _ := h7
        have H8 : Hid _ := h8
        have H9 : Hid _ := h9
        have H11 : Hid _ := h11
        have H13 : Hid _ := h13
        have HE : Hid _ := hE
        have HO : Hid _ := (⟨o1, o2, o3⟩ : _ ∧ _ ∧ _)
        have HNI : Hid _ := hni
        have HSZ : Hid _ := hsz
        have HRR : Hid _ := hR
        have HBB : Hid _ := hB
        clear h1 h2 h4 h5 h7 h8 h9 h11 h13 hdep hE o1 o2 o3 hni hsz hR hB 
        go_simp
        refine hK.out _ _ ⟨x31, x32, x34, x35, x37, x38, .pointer (some ⟨w.heap.size, 2, none⟩), x40, x41, rfl, ⟨HBB.out, HRR.out, by rw [set_other (by decide), set_other (by decide), set_other (by decide)]; exact HE.out⟩, ⟨fun h => ⟨up_set (HO.out.1 (up_keep h (by decide))).1, up_set (HO.out.1 (up_keep h (by decide))).2.1, up_set (HO.out.1 (up_keep h (by decide))).2.2⟩, fun h => up_set (HO.out.2.1 (up_keep h (by decide))), fun h => up_set (HO.out.2.2 (up_keep h (by decide)))⟩, fun h => H1.out (up_keep h (by decide)), fun h => H2.out (up_keep h (by decide)), fun h => H4.out (up_keep h (by decide)), fun h => H5.out (up_keep h (by decide)), fun h => H7.out (up_keep h (by decide)), fun h => H8.out (up_keep h (by decide)), fun _ => rfl, fun h => H11.out (up_keep h (by decide)), fun h => H13.out (up_keep h (by decide))⟩
      · obtain ⟨x31, x32, x34, x35, x37, x38, x39, x40, x41, rfl, ⟨hB, hR, hE⟩, ⟨o1, o2, o3⟩, h1, h2, h4, h5, h7, h8, h9, h11, h13⟩ := hI
        have d9 := h9 (hdep { on := 9, ground := .data } (by simp) rfl)
        subst d9
        have d2 := h2 (hdep { on := 2, ground := .data } (by simp) rfl)
        subst d2
        have q1 := hdep { on := 1, ground := .phase } (by simp) rfl
        have q4 := hdep { on := 4, ground := .phase } (by simp) rfl
        have q7 := hdep { on := 7, ground := .phase } (by simp) rfl
        have hcell := hE.cells.2.2.1
        have hfz := hE.frozen 2
        have H1 : Hid _ := h1
        have H2 : Hid _ := h2
        have H4 : Hid _ := h4
        have H5 : Hid _ := h5
        have H7 : Hid _ := h7
        have H8 : Hid _ := h8
        have H9 : Hid _ := h9
        have H11 : Hid _ := h11
        have H13 : Hid _ := h13
        have HE : Hid _ := hE
        have HO : Hid _ := (⟨o1, o2, o3⟩ : _ ∧ _ ∧ _)
        have HNI : Hid _ := hni
        have HSZ : Hid _ := hsz
        have HRR : Hid _ := hR
        have HBB : Hid _ := hB
        have Qq1 : Hid _ := q1
        have Qq4 : Hid _ := q4
        have Qq7 : Hid _ := q7
        clear h1 h2 h4 h5 h7 h8 h9 h11 h13 hdep hE o1 o2 o3 hni hsz hR hB q1 q4 q7
        go_simp
        refine hK.out _ _ ⟨x31, .string (strN t), x34, x35, x37, x38, .pointer (some ⟨w.heap.size, 2, none⟩), x40, x41, rfl, ⟨HBB.out.setCell (by show w.heap.size ≤ w.heap.size; exact Nat.le_refl _) _, ⟨Arr.set_other HRR.out.arr _ (by show G2 ≠ w.heap.size; have := HGs.out; omega) _⟩, by
          rw [set_other (by decide), set_self (by rw [HSZ.out]; decide), set_other (by decide)]
          have hs := Arr.set HE.out.arr 2 (.string (strN t))
          rw [HNI.out] at hs
          exact ⟨hs⟩⟩, ⟨fun _ => ⟨up_set Qq1.out, up_set Qq4.out, up_set Qq7.out⟩, fun h => up_set (HO.out.2.1 (up_keep h (by decide))), fun h => up_set (HO.out.2.2 (up_keep h (by decide)))⟩, fun h => H1.out (up_keep h (by decide)), fun h => H2.out (up_keep h (by decide)), fun h => H4.out (up_keep h (by decide)), fun h => H5.out (up_keep h (by decide)), fun h => H7.out (up_keep h (by decide)), fun h => H8.out (up_keep h (by decide)), fun h => H9.out (up_keep h (by decide)), fun h => H11.out (up_keep h (by decide)), fun h => H13.out (up_keep h (by decide))⟩
      · obtain ⟨x31, x32, x34, x35, x37, x38, x39, x40, x41, rfl, ⟨hB, hR, hE⟩, ⟨o1, o2, o3⟩, h1, h2, h4, h5, h7, h8, h9, h11, h13⟩ := hI
        have H1 : Hid _ := h1
        have H2 : Hid _ := h2
        have H4 : Hid _ := h4
        have H5 : Hid _ := h5
        have H7 : Hid _ := h7
        have H8 : Hid _ := h8
        have H9 : Hid _ := h9
        have H11 : Hid _ := h11
        have H13 : Hid _ := h13
        have HE : Hid _ := hE
        have HO : Hid _ := (⟨o1, o2, o3⟩ : _ ∧ _ ∧ _)
        have HNI : Hid _ := hni
        have HSZ : Hid _ := hsz
        have HRR : Hid _ := hR
        have HBB : Hid _ := hB
        clear h1 h2 h4 h5 h7 h8 h9 h11 h13 hdep hE o1 o2 o3 hni hsz hR hB 
        go_simp
        refine hK.out _ _ ⟨x31, x32, x34, x35, x37, x38, x39, .pointer (some ⟨w.heap.size, 4, none⟩), x41, rfl, ⟨HBB.out, HRR.out, by rw [set_other (by decide), set_other (by decide), set_other (by decide)]; exact HE.out⟩, ⟨fun h => ⟨up_set (HO.out.1 (up_keep h (by decide))).1, up_set (HO.out.1 (up_keep h (by decide))).2.1, up_set (HO.out.1 (up_keep h (by decide))).2.2⟩, fun h => up_set (HO.out.2.1 (up_keep h (by decide))), fun h => up_set (HO.out.2.2 (up_keep h (by decide)))⟩, fun h => H1.out (up_keep h (by decide)), fun h => H2.out (up_keep h (by decide)), fun h => H4.out (up_keep h (by decide)), fun h => H5.out (up_keep h (by decide)), fun h => H7.out (up_keep h (by decide)), fun h => H8.out (up_keep h (by decide)), fun h => H9.out (up_keep h (by decide)), fun _ => rfl, fun h => H13.out (up_keep h (by decide))⟩
      · obtain ⟨x31, x32, x34, x35, x37, x38, x39, x40, x41, rfl, ⟨hB, hR, hE⟩, ⟨o1, o2, o3⟩, h1, h2, h4, h5, h7, h8, h9, h11, h13⟩ := hI
        have d11 := h11 (hdep { on := 11, ground := .data } (by simp) rfl)
        subst d11
        have d5 := h5 (hdep { on := 5, ground := .data } (by simp) rfl)
        subst d5
        have q10 := hdep { on := 10, ground := .chain } (by simp) rfl
        have hcell := hE.cells.2.2.2.2.1
        have hfz := hE.frozen 4
        have H1 : Hid _ := h1
        have H2 : Hid _ := h2
        have H4 : Hid _ := h4
        have H5 : Hid _ := h5
        have H7 : Hid _ := h7
        have H8 : Hid _ := h8
        have H9 : Hid _ := h9
        have H11 : Hid _ := h11
        have H13 : Hid _ := h13
        have HE : Hid _ := hE
        have HO : Hid _ := (⟨o1, o2, o3⟩ : _ ∧ _ ∧ _)
        have HNI : Hid _ := hni
        have HSZ : Hid _ := hsz
        have HRR : Hid _ := hR
        have HBB : Hid _ := hB
        have Qq10 : Hid _ := q10
        clear h1 h2 h4 h5 h7 h8 h9 h11 h13 hdep hE o1 o2 o3 hni hsz hR hB q10
        go_simp
        refine hK.out _ _ ⟨x31, x32, x34, .string (strN b), x37, x38, x39, .pointer (some ⟨w.heap.size, 4, none⟩), x41, rfl, ⟨HBB.out.setCell (by show w.heap.size ≤ w.heap.size; exact Nat.le_refl _) _, ⟨Arr.set_other HRR.out.arr _ (by show G2 ≠ w.heap.size; have := HGs.out; omega) _⟩, by
          rw [set_other (by decide), set_other (by decide), set_self (by rw [HSZ.out]; decide)]
          have hs := Arr.set HE.out.arr 4 (.string (strN b))
          rw [HNI.out] at hs
          exact ⟨hs⟩⟩, ⟨fun h => ⟨up_set (HO.out.1 (up_keep h (by decide))).1, up_set (HO.out.1 (up_keep h (by decide))).2.1, up_set (HO.out.1 (up_keep h (by decide))).2.2⟩, fun _ => up_set Qq10.out, fun h => up_set (HO.out.2.2 (up_keep h (by decide)))⟩, fun h => H1.out (up_keep h (by decide)), fun h => H2.out (up_keep h (by decide)), fun h => H4.out (up_keep h (by decide)), fun h => H5.out (up_keep h (by decide)), fun h => H7.out (up_keep h (by decide)), fun h => H8.out (up_keep h (by decide)), fun h => H9.out (up_keep h (by decide)), fun h => H11.out (up_keep h (by decide)), fun h => H13.out (up_keep h (by decide))⟩
      · obtain ⟨x31, x32, x34, x35, x37, x38, x39, x40, x41, rfl, ⟨hB, hR, hE⟩, ⟨o1, o2, o3⟩, h1, h2, h4, h5, h7, h8, h9, h11, h13⟩ := hI
        have H1 : Hid _ := h1
        have H2 : Hid _ := h2
        have H4 : Hid _ := h4
        have H5 : Hid _ := h5
        have H7 : Hid _ := h7
        have H8 : Hid _ := h8
        have H9 : Hid _ := h9
        have H11 : Hid _ := h11
        have H13 : Hid _ := h13
        have HE : Hid _ := hE
        have HO : Hid _ := (⟨o1, o2, o3⟩ : _ ∧ _ ∧ _)
        have HNI : Hid _ := hni
        have HSZ : Hid _ := hsz
        have HRR : Hid _ := hR
        have HBB : Hid _ := hB
        clear h1 h2 h4 h5 h7 h8 h9 h11 h13 hdep hE o1 o2 o3 hni hsz hR hB 
        go_simp
        refine hK.out _ _ ⟨x31, x32, x34, x35, x37, x38, x39, x40, .pointer (some ⟨w.heap.size, 1, none⟩), rfl, ⟨HBB.out, HRR.out, by rw [set_other (by decide), set_other (by decide), set_other (by decide)]; exact HE.out⟩, ⟨fun h => ⟨up_set (HO.out.1 (up_keep h (by decide))).1, up_set (HO.out.1 (up_keep h (by decide))).2.1, up_set (HO.out.1 (up_keep h (by decide))).2.2⟩, fun h => up_set (HO.out.2.1 (up_keep h (by decide))), fun h => up_set (HO.out.2.2 (up_keep h (by decide)))⟩, fun h => H1.out (up_keep h (by decide)), fun h => H2.out (up_keep h (by decide)), fun h => H4.out (up_keep h (by decide)), fun h => H5.out (up_keep h (by decide)), fun h => H7.out (up_keep h (by decide)), fun h => H8.out (up_keep h (by decide)), fun h => H9.out (up_keep h (by decide)), fun h => H11.out (up_keep h (by decide)), fun _ => rfl⟩
      · obtain ⟨x31, x32, x34, x35, x37, x38, x39, x40, x41, rfl, ⟨hB, hR, hE⟩, ⟨o1, o2, o3⟩, h1, h2, h4, h5, h7, h8, h9, h11, h13⟩ := hI
        have d13 := h13 (hdep { on := 13, ground := .data } (by simp) rfl)
        subst d13
        have d8 := h8 (hdep { on := 8, ground := .data } (by simp) rfl)
        subst d8
        have q12 := hdep { on := 12, ground := .chain } (by simp) rfl
        have hcell := hE.cells.2.1
        have hfz := hE.frozen 1
        have H1 : Hid _ := h1
        have H2 : Hid _ := h2
        have H4 : Hid _ := h4
        have H5 : Hid _ := h5
        have H7 : Hid _ := h7
        have H8 : Hid _ := h8
        have H9 : Hid _ := h9
        have H11 : Hid _ := h11
        have H13 : Hid _ := h13
        have HE : Hid _ := hE
        have HO : Hid _ := (⟨o1, o2, o3⟩ : _ ∧ _ ∧ _)
        have HNI : Hid _ := hni
        have HSZ : Hid _ := hsz
        have HRR : Hid _ := hR
        have HBB : Hid _ := hB
        have Qq12 : Hid _ := q12
        clear h1 h2 h4 h5 h7 h8 h9 h11 h13 hdep hE o1 o2 o3 hni hsz hR hB q12
        go_simp
        refine hK.out _ _ ⟨x31, x32, x34, x35, x37, .string (strN g), x39, x40, .pointer (some ⟨w.heap.size, 1, none⟩), rfl, ⟨HBB.out.setCell (by show w.heap.size ≤ w.heap.size; exact Nat.le_refl _) _, ⟨Arr.set_other HRR.out.arr _ (by show G2 ≠ w.heap.size; have := HGs.out; omega) _⟩, by
          rw [set_self (by rw [HSZ.out]; decide), set_other (by decide), set_other (by decide)]
          have hs := Arr.set HE.out.arr 1 (.string (strN g))
          rw [HNI.out] at hs
          exact ⟨hs⟩⟩, ⟨fun h => ⟨up_set (HO.out.1 (up_keep h (by decide))).1, up_set (HO.out.1 (up_keep h (by decide))).2.1, up_set (HO.out.1 (up_keep h (by decide))).2.2⟩, fun h => up_set (HO.out.2.1 (up_keep h (by decide))), fun _ => up_set Qq12.out⟩, fun h => H1.out (up_keep h (by decide)), fun h => H2.out (up_keep h (by decide)), fun h => H4.out (up_keep h (by decide)), fun h => H5.out (up_keep h (by decide)), fun h => H7.out (up_keep h (by decide)), fun h => H8.out (up_keep h (by decide)), fun h => H9.out (up_keep h (by decide)), fun h => H11.out (up_keep h (by decide)), fun h => H13.out (up_keep h (by decide))⟩
    · simp only [Act.put, List.setIfInBounds_toArray, List.set_cons_zero, List.set_cons_succ]
      rintro l a w3 ⟨x31, x32, x34, x35, x37, x38, x39, x40, x41, rfl, ⟨hB, hR, hE⟩, _, h1, h2, h4, h5, h7, h8, h9, h11, h13⟩ hall
      have e31 := h1 (hall 1 (by decide))
      have e32 := h2 (hall 2 (by decide))
      have e34 := h4 (hall 4 (by decide))
      have e35 := h5 (hall 5 (by decide))
      have e37 := h7 (hall 7 (by decide))
      have e38 := h8 (hall 8 (by decide))
      have e39 := h9 (hall 9 (by decide))
      have e40 := h11 (hall 11 (by decide))
      have e41 := h13 (hall 13 (by decide))
      rw [hall 14 (by decide), hall 10 (by decide), hall 12 (by decide)] at hE
      subst e31
      subst e32
      subst e34
      subst e35
      subst e37
      subst e38
      subst e39
      subst e40
      subst e41
      have HE3 : Hid (EntAt w3 w.heap.size ⟨f, g, t, l0, b, e.time⟩) := hE
      have HR3 : Hid _ := hR
      have HB3 : Hid _ := hB
      clear h1 h2 h4 h5 h7 h8 h9 h11 h13 hall hE hR hB h0
      obtain ⟨c0, c1, c2, c3, c4, c5⟩ := HE3.out.cells
      have hf1 := HE3.out.frozen 1
      have hlt5 := HE3.out.lt
      clear HE9 HR9 HB9
      by_cases hg : g = []
      · have eg : ((strN g).toList == ([] : List UInt8)) = true := by rw [strN_nil_eq g hgb]; simp [hg]
        have HG : Hid _ := hg
        have hq : EntMath.guidOf g l0 t = l0 := by unfold EntMath.guidOf; rw [if_pos hg, if_neg hLn]
        rw [hq] at HQ0
        have HE5 : Hid (EntAt (w3.setCell ⟨w.heap.size, 1, none⟩ (.string (strN l0))) w.heap.size ⟨f, l0, t, l0, b, e.time⟩) := ⟨Arr.set HE3.out.arr 1 _⟩
        have HR5 : Hid (EntAt (w3.setCell ⟨w.heap.size, 1, none⟩ (.string (strN l0))) G2 EntMath.zero) := ⟨Arr.set_other HR3.out.arr _ (by show G2 ≠ w.heap.size; have := HGs.out; omega) _⟩
        have HB5 : Hid (Below w.heap.size w (w3.setCell ⟨w.heap.size, 1, none⟩ (.string (strN l0)))) := HB3.out.setCell (Nat.le_refl _) _
        clear hq hg
        have hNb : ∀ c ∈ l0, c < 256 := by first | exact hgb | exact htb | exact hllb
        have hNl : (l0).length ≤ 50000 := by omega
        have HRu : Hid (∀ w, _) := fun w => refRunes_any l0 w hNb (by omega)
        by_cases hE : l0 = []
        · exact absurd hE hLn
        · have HQ1 : Hid _ := HQ0.out.trans (if_neg hE)
          have eN : ((strN l0).toList == ([] : List UInt8)) = false := by rw [strN_nil_eq l0 hNb]; simp [hE]
          clear hE HQ0 hNb hNl
          clear eN
          go_wp2_with fail
          refine Calls.mono (HRu.out _) ?_
          rintro r w6 ⟨v1, rfl, ho1, hb⟩
          obtain ⟨a1, q1, rfl, hc1, hm1, _, hr1⟩ := ho1.shape
          rw [iv_len] at hc1 ⊢
          have HE6 : Hid _ := HE5.out.later hb HE5.out.lt
          have HR6 : Hid _ := HR5.out.later hb HR5.out.lt
          have HB6 : Hid _ := HB5.out.trans (hb.mono HB5.out.size)
          clear ho1 hb hr1 hm1 hc1 HE5 HR5 HB5 c0 c1 c2 c3 c4 c5 hlt5
          obtain ⟨c0, c1, c2, c3, c4, c5⟩ := HE6.out.cells
          have hlt6 := HE6.out.lt
          generalize (TxtMath.runes l0).length = n at *
          by_cases hn : 200 < n
          · have HQ : Hid _ := HQ1.out.trans (if_pos hn)
            have hn2 : (200 : Int) < (n : Int) := by omega
            clear HQ1
            go_wp2_with (refine wpList_store_ent rfl (.tmp 2) (.tmp 65) rfl G2 EntMath.zero EntMath.zero rfl rfl HR6.out ?_)
            refine ret_ent G2 EntMath.zero (.int .i64 23) rfl rfl rfl (EntAt.row HR6.out) rfl ⟨by rw [HQ.out]; rfl, below_setRow HB6.out (Nat.le_of_lt HGs.out) _⟩
          · have HQ2 : Hid _ := HQ1.out.trans (if_neg hn)
            have hn2 : (n : Int) ≤ 200 := by omega
            have hn3 : n ≤ 200 := by omega
            clear HQ1 hn
            by_cases htm : e.time < 0 ∨ 281474976710655 < e.time
            · have HQ : Hid _ := HQ2.out.trans (if_pos htm)
              clear HQ2
              rcases htm with htm | htm
              · go_wp2_with (refine wpList_store_ent rfl (.tmp 2) (.tmp 75) rfl G2 EntMath.zero EntMath.zero rfl rfl HR6.out ?_)
                refine ret_ent G2 EntMath.zero (.int .i64 24) rfl rfl rfl (EntAt.row HR6.out) rfl ⟨by rw [HQ.out]; rfl, below_setRow HB6.out (Nat.le_of_lt HGs.out) _⟩
              · have htm0 : 0 ≤ e.time := by omega
                go_wp2_with (refine wpList_store_ent rfl (.tmp 2) (.tmp 75) rfl G2 EntMath.zero EntMath.zero rfl rfl HR6.out ?_)
                refine ret_ent G2 EntMath.zero (.int .i64 24) rfl rfl rfl (EntAt.row HR6.out) rfl ⟨by rw [HQ.out]; rfl, below_setRow HB6.out (Nat.le_of_lt HGs.out) _⟩
            · have HQ : Hid _ := HQ2.out.trans (if_neg htm)
              have htm0 : 0 ≤ e.time := by omega
              have htm1 : e.time ≤ 281474976710655 := by omega
              clear HQ2 htm
              go_wp2_with (refine wpList_store_ent rfl (.tmp 2) (.tmp 76) rfl G2 EntMath.zero ⟨f, l0, t, l0, b, e.time⟩ rfl rfl HR6.out ?_)
              refine ret_ent G2 ⟨f, l0, t, l0, b, e.time⟩ (.int .i64 0) rfl rfl rfl (EntAt.row HR6.out) rfl ⟨by rw [HQ.out]; rfl, below_setRow HB6.out (Nat.le_of_lt HGs.out) _⟩
      · have eg : ((strN g).toList == ([] : List UInt8)) = false := by rw [strN_nil_eq g hgb]; simp [hg]
        have hq : EntMath.guidOf g l0 t = g := by unfold EntMath.guidOf; rw [if_neg hg]
        rw [hq] at HQ0
        have HE5 : Hid (EntAt w3 w.heap.size ⟨f, g, t, l0, b, e.time⟩) := HE3.out
        have HR5 : Hid _ := HR3.out
        have HB5 : Hid _ := HB3.out
        clear hq
        have hNb : ∀ c ∈ g, c < 256 := by first | exact hgb | exact htb | exact hllb
        have hNl : (g).length ≤ 50000 := by omega
        have HRu : Hid (∀ w, _) := fun w => refRunes_any g w hNb (by omega)
        by_cases hE : g = []
        · exact absurd hE hg
        · have HQ1 : Hid _ := HQ0.out.trans (if_neg hE)
          have eN : ((strN g).toList == ([] : List UInt8)) = false := by rw [strN_nil_eq g hNb]; simp [hE]
          clear hE HQ0 hNb hNl
          clear eN
          go_wp2_with fail
          refine Calls.mono (HRu.out _) ?_
          rintro r w6 ⟨v1, rfl, ho1, hb⟩
          obtain ⟨a1, q1, rfl, hc1, hm1, _, hr1⟩ := ho1.shape
          rw [iv_len] at hc1 ⊢
          have HE6 : Hid _ := HE5.out.later hb HE5.out.lt
          have HR6 : Hid _ := HR5.out.later hb HR5.out.lt
          have HB6 : Hid _ := HB5.out.trans (hb.mono HB5.out.size)
          clear ho1 hb hr1 hm1 hc1 HE5 HR5 HB5 c0 c1 c2 c3 c4 c5 hlt5
          obtain ⟨c0, c1, c2, c3, c4, c5⟩ := HE6.out.cells
          have hlt6 := HE6.out.lt
          generalize (TxtMath.runes g).length = n at *
          by_cases hn : 200 < n
          · have HQ : Hid _ := HQ1.out.trans (if_pos hn)
            have hn2 : (200 : Int) < (n : Int) := by omega
            clear HQ1
            go_wp2_with (refine wpList_store_ent rfl (.tmp 2) (.tmp 65) rfl G2 EntMath.zero EntMath.zero rfl rfl HR6.out ?_)
            refine ret_ent G2 EntMath.zero (.int .i64 23) rfl rfl rfl (EntAt.row HR6.out) rfl ⟨by rw [HQ.out]; rfl, below_setRow HB6.out (Nat.le_of_lt HGs.out) _⟩
          · have HQ2 : Hid _ := HQ1.out.trans (if_neg hn)
            have hn2 : (n : Int) ≤ 200 := by omega
            have hn3 : n ≤ 200 := by omega
            clear HQ1 hn
            by_cases htm : e.time < 0 ∨ 281474976710655 < e.time
            · have HQ : Hid _ := HQ2.out.trans (if_pos htm)
              clear HQ2
              rcases htm with htm | htm
              · go_wp2_with (refine wpList_store_ent rfl (.tmp 2) (.tmp 75) rfl G2 EntMath.zero EntMath.zero rfl rfl HR6.out ?_)
                refine ret_ent G2 EntMath.zero (.int .i64 24) rfl rfl rfl (EntAt.row HR6.out) rfl ⟨by rw [HQ.out]; rfl, below_setRow HB6.out (Nat.le_of_lt HGs.out) _⟩
              · have htm0 : 0 ≤ e.time := by omega
                go_wp2_with (refine wpList_store_ent rfl (.tmp 2) (.tmp 75) rfl G2 EntMath.zero EntMath.zero rfl rfl HR6.out ?_)
                refine ret_ent G2 EntMath.zero (.int .i64 24) rfl rfl rfl (EntAt.row HR6.out) rfl ⟨by rw [HQ.out]; rfl, below_setRow HB6.out (Nat.le_of_lt HGs.out) _⟩
            · have HQ : Hid _ := HQ2.out.trans (if_neg htm)
              have htm0 : 0 ≤ e.time := by omega
              have htm1 : e.time ≤ 281474976710655 := by omega
              clear HQ2 htm
              go_wp2_with (refine wpList_store_ent rfl (.tmp 2) (.tmp 76) rfl G2 EntMath.zero ⟨f, g, t, l0, b, e.time⟩ rfl rfl HR6.out ?_)
              refine ret_ent G2 ⟨f, g, t, l0, b, e.time⟩ (.int .i64 0) rfl rfl rfl (EntAt.row HR6.out) rfl ⟨by rw [HQ.out]; rfl, below_setRow HB6.out (Nat.le_of_lt HGs.out) _⟩
end Go.Proofs.YteockpllnhjooaaGreatDoor

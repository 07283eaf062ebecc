/-
  FnEntB, FnEntC.
-/
import Derived.Test.YteockpllnhjooaaGreatDoorQC19
import Derived.Test.YteockpllnhjooaaGreatDoorQC22
namespace Go.Proofs.YteockpllnhjooaaGreatDoor
open Go.RowKit NumMath
open EntMath (E)
set_option maxRecDepth 100000
set_option linter.unusedVariables false
set_option linter.unusedSimpArgs false

/-- What may be asked of entry's functions. -/
structure EFit (e : E) : Prop where
  f1 : ∀ c ∈ e.feed, c < 256
  f2 : ∀ c ∈ e.guid, c < 256
  f3 : ∀ c ∈ e.title, c < 256
  f4 : ∀ c ∈ e.link, c < 256
  f5 : ∀ c ∈ e.body, c < 256
  l1 : e.feed.length ≤ 10000
  l2 : e.guid.length ≤ 10000
  l3 : e.title.length ≤ 10000
  l4 : e.link.length ≤ 10000
  l5 : e.body.length ≤ 10000
  t0 : -9223372036854775808 ≤ e.time
  t1 : e.time ≤ 9223372036854775807
theorem EFit.of {e : E} (h : EntMath.Fit e) : EFit e := ⟨h.f1, h.f2, h.f3, h.f4, h.f5, by have := h.l1; omega, by have := h.l2; omega, by have := h.l3; omega, by have := h.l4; omega, by have := h.l5; omega, by have := h.t0; omega, by have := h.t1; omega⟩

set_option maxHeartbeats 16000000 in
theorem entClean_any (e : E) (w : World) (ht : MaxLen w) (hF : EFit e) :
    Calls Tryz.prog 10 #[entV e] w fun r w' => r = .returned (.tuple #[entV (EntMath.clean e).1, .int .i64 ((EntMath.clean e).2 : Int)]) ∧ Below w.heap.size w w' := by
  have HT : Hid _ := ht
  have HX : Hid (EntMath.clean e = EntMath.cleanG (AddrMath.parse e.feed).1 (AddrMath.parse e.feed).2 (EntMath.linkP e.link).1 (EntMath.linkP e.link).2 (TxtMath.cleanB e.guid) (TxtMath.cutB e.title 120) (TxtMath.cutB e.body 400) e.time) := rfl
  have hl2 := hF.l2; have hl3 := hF.l3; have hl5 := hF.l5
  have HP : Hid (∀ w, MaxLen w → _) := fun w ht => parse_at e.feed (AddrMath.parse e.feed).1 (AddrMath.parse e.feed).2 w ht hF.f1 hF.l1 (Prod.eta _).symm
  have HL : Hid (∀ w, MaxLen w → _) := fun w ht => linkForm_any e.link w ht hF.f4 hF.l4
  have HCt : Hid (∀ w, _) := fun w => cut_any e.title 120 w hF.f3 (by omega) (by omega)
  have HCb : Hid (∀ w, _) := fun w => cut_any e.body 400 w hF.f5 (by omega) (by omega)
  have HCg : Hid (∀ w, _) := fun w => clean_any e.guid w hF.f2 (by omega)
  have hlb := EntMath.linkP_lt e.link
  have htb := EntMath.cutB_lt e.title 120
  have hgb := cleanB_lt e.guid
  have hll := EntMath.linkP_len e.link
  have htl := EntMath.cutB_len e.title 120
  have hgl := cleanB_len e.guid
  have HA : Hid _ := EntAt.new w e
  have HB0 : Hid (Below w.heap.size w (w.alloc (.cells #[.string (strN e.feed), .string (strN e.guid), .string (strN e.title), .string (strN e.link), .string (strN e.body), .int .i64 e.time] 23))) := (Below.refl _ _).alloc (Nat.le_refl _) _
  have htime : e.time = e.time := rfl
  have hcode1 := AddrMath.parse_code e.feed
  have hcode2 := EntMath.linkP_code e.link
  generalize (AddrMath.parse e.feed).1 = f at *
  generalize (AddrMath.parse e.feed).2 = kf at *
  generalize (EntMath.linkP e.link).1 = l at *
  generalize (EntMath.linkP e.link).2 = kl at *
  generalize TxtMath.cleanB e.guid = g at *
  generalize TxtMath.cutB e.title 120 = t at *
  generalize TxtMath.cutB e.body 400 = b at *
  clear hF ht htime
  have HR0 : Hid (EntAt ((w.alloc (.cells #[.string (strN e.feed), .string (strN e.guid), .string (strN e.title), .string (strN e.link), .string (strN e.body), .int .i64 e.time] 23)).alloc (.cells #[.string ⟨#[]⟩, .string ⟨#[]⟩, .string ⟨#[]⟩, .string ⟨#[]⟩, .string ⟨#[]⟩, .int .i64 0] 23)) (w.heap.size + 1) EntMath.zero) := ⟨Arr.new _ _ (entL EntMath.zero) (by simp)⟩
  have HA0 : Hid _ := HA.out.alloc (.cells #[.string ⟨#[]⟩, .string ⟨#[]⟩, .string ⟨#[]⟩, .string ⟨#[]⟩, .string ⟨#[]⟩, .int .i64 0] 23)
  have HBz : Hid _ := HB0.out.alloc HB0.out.size (.cells #[.string ⟨#[]⟩, .string ⟨#[]⟩, .string ⟨#[]⟩, .string ⟨#[]⟩, .string ⟨#[]⟩, .int .i64 0] 23)
  clear HB0
  have HB0 : Hid _ := HBz.out
  clear HBz HA
  have HT0 : Hid (MaxLen _) := MaxLen.later HT.out HB0.out
  clear HT
  unfold entV at *
  go_enter Tryz.func10, Tryz.ntmps10
  go_wp2_with fail
  generalize World.alloc (World.alloc w _) _ = W0 at *
  have hG2 : w.heap.size ≤ w.heap.size + 1 := by omega
  generalize hGe : w.heap.size + 1 = G2 at *
  have hGG : w.heap.size < G2 := by omega
  clear hGe
  refine Calls.mono (HP.out _ HT0.out) ?_
  rintro r w1 ⟨rfl, hb⟩
  have HA1 : Hid _ := HA0.out.later hb HA0.out.lt
  have HR1 : Hid _ := HR0.out.later hb HR0.out.lt
  have HB1 : Hid _ := HB0.out.trans (hb.mono HB0.out.size)
  have HT1 : Hid (MaxLen _) := MaxLen.later HT0.out hb
  obtain ⟨c0, c1, c2, c3, c4, c5⟩ := HA1.out.cells
  have hlt1 := HA1.out.lt
  clear hb HA0 HR0 HB0 HT0
  clear c0
  clear c1
  clear c2
  clear c4
  clear c5
  obtain rfl | hk1 : kf = 0 ∨ 0 < kf := by omega
  rotate_left
  · have HQ : Hid (EntMath.cleanG f kf l kl g t b e.time = (EntMath.zero, kf)) := by unfold EntMath.cleanG; rw [if_pos (by omega)]; trivial
    go_wp2_with (refine wpList_store_ent rfl (.tmp 2) (.tmp 18) rfl G2 EntMath.zero EntMath.zero rfl rfl HR1.out ?_)
    refine ret_ent G2 EntMath.zero (.int .i64 (kf : Int)) rfl rfl rfl (EntAt.row HR1.out) rfl ⟨by rw [HX.out, HQ.out]; rfl, below_setRow HB1.out hG2 _⟩
  go_wp2_with fail
  refine Calls.mono (HL.out _ HT1.out) ?_
  rintro r w2 ⟨rfl, hb⟩
  have HA2 : Hid _ := HA1.out.later hb HA1.out.lt
  have HR2 : Hid _ := HR1.out.later hb HR1.out.lt
  have HB2 : Hid _ := HB1.out.trans (hb.mono HB1.out.size)
  have HT2 : Hid (MaxLen _) := MaxLen.later HT1.out hb
  obtain ⟨c0, c1, c2, c3, c4, c5⟩ := HA2.out.cells
  have hlt2 := HA2.out.lt
  clear hb HA1 HR1 HB1 HT1 hlt1
  clear c0
  clear c1
  clear c3
  clear c4
  clear c5
  obtain rfl | hk2 : kl = 0 ∨ 0 < kl := by omega
  rotate_left
  · have HQ : Hid (EntMath.cleanG f 0 l kl g t b e.time = (EntMath.zero, kl)) := by unfold EntMath.cleanG; rw [if_neg (by omega), if_pos (by omega)]; trivial
    go_wp2_with (refine wpList_store_ent rfl (.tmp 2) (.tmp 28) rfl G2 EntMath.zero EntMath.zero rfl rfl HR2.out ?_)
    refine ret_ent G2 EntMath.zero (.int .i64 (kl : Int)) rfl rfl rfl (EntAt.row HR2.out) rfl ⟨by rw [HX.out, HQ.out]; rfl, below_setRow HB2.out hG2 _⟩
  go_wp2_with fail
  refine Calls.mono (HCt.out _) ?_
  rintro r w3 ⟨rfl, hb⟩
  have HA3 : Hid _ := HA2.out.later hb HA2.out.lt
  have HR3 : Hid _ := HR2.out.later hb HR2.out.lt
  have HB3 : Hid _ := HB2.out.trans (hb.mono HB2.out.size)
  have HT3 : Hid (MaxLen _) := MaxLen.later HT2.out hb
  obtain ⟨c0, c1, c2, c3, c4, c5⟩ := HA3.out.cells
  have hlt3 := HA3.out.lt
  clear hb HA2 HR2 HB2 HT2 hlt2
  clear c0
  clear c2
  clear c3
  clear c4
  clear c5
  go_wp2_with fail
  refine Calls.mono (HCg.out _) ?_
  rintro r w4 ⟨rfl, hb⟩
  have HA4 : Hid _ := HA3.out.later hb HA3.out.lt
  have HR4 : Hid _ := HR3.out.later hb HR3.out.lt
  have HB4 : Hid _ := HB3.out.trans (hb.mono HB3.out.size)
  have HT4 : Hid (MaxLen _) := MaxLen.later HT3.out hb
  obtain ⟨c0, c1, c2, c3, c4, c5⟩ := HA4.out.cells
  have hlt4 := HA4.out.lt
  clear hb HA3 HR3 HB3 HT3 hlt3
  clear c0
  clear c1
  clear c2
  clear c3
  clear c4
  have hGb := EntMath.guidOf_lt hgb hlb htb
  have hGl : (EntMath.guidOf g l t).length ≤ 50000 := by unfold EntMath.guidOf; split <;> (try split) <;> omega
  have heq := strN_nil_eq (EntMath.guidOf g l t) hGb
  have HO : Hid _ := cmpOr_any g l t w4.heap.size (w4.alloc (.cells #[.string (strN g), .string (strN l), .string (strN t)] 9)) hgb hlb htb (by simp) (by simp) (by simp)
  have HRu : Hid (∀ w, _) := fun w => runes_any (EntMath.guidOf g l t) w hGb (by omega)
  have HY : Hid (EntMath.cleanG f 0 l 0 g t b e.time = EntMath.cleanG f 0 l 0 g t b e.time) := rfl
  go_wp2_with fail
  refine Calls.mono HO.out ?_
  rintro r w5 ⟨rfl, hw5⟩
  have HA5 : Hid (EntAt w5 w.heap.size e) := by rw [hw5]; exact HA4.out.alloc _
  have HR5 : Hid (EntAt w5 G2 EntMath.zero) := by rw [hw5]; exact HR4.out.alloc _
  have HB5 : Hid (Below w.heap.size w w5) := by rw [hw5]; exact HB4.out.alloc HB4.out.size _
  have HT5 : Hid (MaxLen w5) := by
    rw [hw5]; exact MaxLen.later HT4.out ((Below.refl _ _).alloc (Nat.le_refl _) _)
  have hlt5 := HA5.out.lt
  obtain ⟨c0, c1, c2, c3, c4, c5⟩ := HA5.out.cells
  clear hw5 HA4 HR4 HB4 HT4 hlt4 HO c0 c1 c2 c3 c4
  have HGo : Hid (EntMath.guidOf g l t = EntMath.guidOf g l t) := rfl
  have HQ0 : Hid (EntMath.cleanG f 0 l 0 g t b e.time = if EntMath.guidOf g l t = [] then (EntMath.zero, 26) else if 200 < (TxtMath.runes (EntMath.guidOf g l t)).length then (EntMath.zero, 23) else if e.time < 0 ∨ 281474976710655 < e.time then (EntMath.zero, 24) else (⟨f, EntMath.guidOf g l t, t, l, b, e.time⟩, 0)) := by
    show _ = _
    unfold EntMath.cleanG; rw [if_neg (by omega), if_neg (by omega)]
  clear HY HGo
  generalize EntMath.guidOf g l t = G at *
  by_cases hG : G = []
  · rw [show decide (G = []) = true by simp [hG]] at heq
    have HQ : Hid (EntMath.cleanG f 0 l 0 g t b e.time = (EntMath.zero, 26)) := by show _ = _; rw [HQ0.out, if_pos hG]
    clear hG HQ0
    go_wp2_with (refine wpList_store_ent rfl (.tmp 2) (.tmp 43) rfl G2 EntMath.zero EntMath.zero rfl rfl HR5.out ?_)
    refine ret_ent G2 EntMath.zero (.int .i64 26) rfl rfl rfl (EntAt.row HR5.out) rfl ⟨by rw [HX.out, HQ.out]; rfl, below_setRow HB5.out hG2 _⟩
  · rw [show decide (G = []) = false by simp [hG]] at heq
    have HQ1 : Hid _ := HQ0.out.trans (if_neg hG)
    clear hG HQ0
    generalize (TxtMath.runes G).length = n at *
    go_wp2_with fail
    refine Calls.mono (HRu.out _) ?_
    rintro r w6 ⟨rfl, hb⟩
    have HA6 : Hid _ := HA5.out.later hb HA5.out.lt
    have HR6 : Hid _ := HR5.out.later hb HR5.out.lt
    have HB6 : Hid _ := HB5.out.trans (hb.mono HB5.out.size)
    have HT6 : Hid (MaxLen _) := MaxLen.later HT5.out hb
    obtain ⟨c0, c1, c2, c3, c4, c5⟩ := HA6.out.cells
    have hlt6 := HA6.out.lt
    clear hb HA5 HR5 HB5 HT5 hlt5
    clear c0
    clear c1
    clear c2
    clear c3
    clear c4
    by_cases hn : 200 < n
    · have HQ : Hid _ := HQ1.out.trans (if_pos hn)
      clear HQ1
      go_wp2_with (refine wpList_store_ent rfl (.tmp 2) (.tmp 48) rfl G2 EntMath.zero EntMath.zero rfl rfl HR6.out ?_)
      refine ret_ent G2 EntMath.zero (.int .i64 23) rfl rfl rfl (EntAt.row HR6.out) rfl ⟨by rw [HX.out, HQ.out]; rfl, below_setRow HB6.out hG2 _⟩
    · have HQ2 : Hid _ := HQ1.out.trans (if_neg hn)
      have hn2 : (n : Int) ≤ 200 := by omega
      clear HQ1 hn
      by_cases htm : e.time < 0 ∨ 281474976710655 < e.time
      · have HQ : Hid _ := HQ2.out.trans (if_pos htm)
        clear HQ2
        rcases htm with htm | htm
        · go_wp2_with (refine wpList_store_ent rfl (.tmp 2) (.tmp 58) rfl G2 EntMath.zero EntMath.zero rfl rfl HR6.out ?_)
          refine ret_ent G2 EntMath.zero (.int .i64 24) rfl rfl rfl (EntAt.row HR6.out) rfl ⟨by rw [HX.out, HQ.out]; rfl, below_setRow HB6.out hG2 _⟩
        · have htm0 : 0 ≤ e.time := by omega
          go_wp2_with (refine wpList_store_ent rfl (.tmp 2) (.tmp 58) rfl G2 EntMath.zero EntMath.zero rfl rfl HR6.out ?_)
          refine ret_ent G2 EntMath.zero (.int .i64 24) rfl rfl rfl (EntAt.row HR6.out) rfl ⟨by rw [HX.out, HQ.out]; rfl, below_setRow HB6.out hG2 _⟩
      · have HQ : Hid _ := HQ2.out.trans (if_neg htm)
        have htm0 : 0 ≤ e.time := by omega
        have htm1 : e.time ≤ 281474976710655 := by omega
        clear HQ2 htm
        obtain ⟨_, _, _, _, c4, _⟩ := HA6.out.cells
        go_wp2_with fail
        refine Calls.mono (HCb.out _) ?_
        rintro r w7 ⟨rfl, hb⟩
        have HA7 : Hid _ := HA6.out.later hb HA6.out.lt
        have HR7 : Hid _ := HR6.out.later hb HR6.out.lt
        have HB7 : Hid _ := HB6.out.trans (hb.mono HB6.out.size)
        have HT7 : Hid (MaxLen _) := MaxLen.later HT6.out hb
        obtain ⟨c0, c1, c2, c3, c4, c5⟩ := HA7.out.cells
        have hlt7 := HA7.out.lt
        clear hb HA6 HR6 HB6 HT6 hlt6
        clear c0
        clear c1
        clear c2
        clear c3
        clear c4
        go_wp2_with (refine wpList_store_ent rfl (.tmp 2) (.tmp 69) rfl G2 EntMath.zero ⟨f, G, t, l, b, e.time⟩ rfl rfl HR7.out ?_)
        refine ret_ent G2 ⟨f, G, t, l, b, e.time⟩ (.int .i64 0) rfl rfl rfl (EntAt.row HR7.out) rfl ⟨by rw [HX.out, HQ.out]; rfl, below_setRow HB7.out hG2 _⟩
end Go.Proofs.YteockpllnhjooaaGreatDoor
namespace Go.Proofs.YteockpllnhjooaaGreatDoor
open Go.RowKit NumMath
open EntMath (E)
set_option maxRecDepth 100000
set_option linter.unusedVariables false
set_option linter.unusedSimpArgs false

theorem ent_differ {x e : E} (h : x ≠ e) (ht : x.time = e.time) (h1 : x.feed = e.feed) (h2 : x.guid = e.guid) (h3 : x.title = e.title) (h4 : x.link = e.link) : x.body ≠ e.body := by
  intro h5
  cases x; cases e
  simp_all

set_option maxHeartbeats 16000000 in
theorem entRight_any (e : E) (w : World) (ht : MaxLen w) (hF : EFit e) :
    Calls Tryz.prog 12 #[entV e] w fun r w' => r = .returned (.bool (EntMath.right e)) ∧ Below w.heap.size w w' := by
  have HC : Hid (∀ w, MaxLen w → _) := fun w ht => entClean_any e w ht hF
  have HA0 : Hid _ := EntAt.new w e
  have HB0 : Hid (Below w.heap.size w (w.alloc (.cells #[.string (strN e.feed), .string (strN e.guid), .string (strN e.title), .string (strN e.link), .string (strN e.body), .int .i64 e.time] 23))) := (Below.refl _ _).alloc (Nat.le_refl _) _
  have HT0 : Hid (MaxLen _) := MaxLen.later ht HB0.out
  have HR : Hid ((EntMath.clean e = (e, 0) → EntMath.right e = true) ∧ (EntMath.clean e ≠ (e, 0) → EntMath.right e = false)) := ⟨(EntMath.right_iff e).2, EntMath.right_no⟩
  have hfx := EntMath.clean_any_fit e
  rcases hcl : EntMath.clean e with ⟨x, k⟩
  rw [hcl] at HC HR hfx
  simp only at hfx
  have e1 := strN_eq hfx.f1 hF.f1
  have e2 := strN_eq hfx.f2 hF.f2
  have e3 := strN_eq hfx.f3 hF.f3
  have e4 := strN_eq hfx.f4 hF.f4
  have e5 := strN_eq hfx.f5 hF.f5
  clear hcl ht
  by_cases hk : 0 < k
  · have HQ : Hid (EntMath.right e = false) := by
      exact HR.out.2 (fun h => by have := (Prod.mk.inj h).2; omega)
    clear HR e1 e2 e3 e4 e5 hfx hF
    unfold entV at *
    go_enter Tryz.func12, Tryz.ntmps12
    go_wp2_with fail
    refine Calls.mono (HC.out _ HT0.out) ?_
    rintro r w1 ⟨rfl, hb⟩
    have HB1 : Hid _ := HB0.out.trans (hb.mono HB0.out.size)
    clear hb
    go_wp2
    go_ret
    rw [HQ.out]
    exact ⟨rfl, HB1.out.alloc HB1.out.size _⟩
  · obtain rfl : k = 0 := by omega
    clear hk
    by_cases hx : x = e
    · have HQ : Hid (EntMath.right e = true) := by
        exact HR.out.1 (by rw [hx])
      clear HR e1 e2 e3 e4 e5 hfx hF
      subst hx
      unfold entV at *
      go_enter Tryz.func12, Tryz.ntmps12
      go_wp2_with fail
      refine Calls.mono (HC.out _ HT0.out) ?_
      rintro r w1 ⟨rfl, hb⟩
      have HA1 : Hid _ := HA0.out.later hb HA0.out.lt
      obtain ⟨c0, c1, c2, c3, c4, c5⟩ := HA1.out.cells
      have hlt := HA1.out.lt
      have HB1 : Hid _ := HB0.out.trans (hb.mono HB0.out.size)
      clear hb HA0 HB0
      go_wp2
      go_ret
      rw [HQ.out]
      exact ⟨rfl, HB1.out.alloc HB1.out.size _⟩
    · have HQ : Hid (EntMath.right e = false) := by
        exact HR.out.2 (fun h => hx (Prod.mk.inj h).1)
      have HX : Hid _ := hx
      clear HR hfx hF hx
      unfold entV at *
      go_enter Tryz.func12, Tryz.ntmps12
      go_wp2_with fail
      refine Calls.mono (HC.out _ HT0.out) ?_
      rintro r w1 ⟨rfl, hb⟩
      have HA1 : Hid _ := HA0.out.later hb HA0.out.lt
      obtain ⟨c0, c1, c2, c3, c4, c5⟩ := HA1.out.cells
      have hlt := HA1.out.lt
      have HB1 : Hid _ := HB0.out.trans (hb.mono HB0.out.size)
      clear hb HA0 HB0
      go_wp2
      all_goals first
        | (go_ret; rw [HQ.out]; exact ⟨rfl, HB1.out.alloc HB1.out.size _⟩)
        | (exfalso; have hx := HX.out; rw [ent_eq_iff] at hx; simp_all)
end Go.Proofs.YteockpllnhjooaaGreatDoor

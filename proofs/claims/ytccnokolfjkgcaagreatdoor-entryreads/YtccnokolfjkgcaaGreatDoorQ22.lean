/-
  FnEntB, FnEntC, FnEntE.
-/
import Derived.Test.YtccnokolfjkgcaaGreatDoorQ18
import Derived.Test.YtccnokolfjkgcaaGreatDoorQ21
import Derived.Test.YtccnokolfjkgcaaGreatDoorQ17
namespace Go.Proofs.YtccnokolfjkgcaaGreatDoor
open Go.RowKit NumMath
open EntMath (E)
set_option maxRecDepth 100000
set_option linter.unusedVariables false
set_option linter.unusedSimpArgs false

/-- What may be asked of entry's functions. -/
structure EFit (e : E) : Prop where
  f1 : ∀ c ∈ e.feed, c < 256
  f2 : ∀ c ∈ e.guid, c < 256
  f3 : ∀ c ∈ e.title, c < 256
  f4 : ∀ c ∈ e.link, c < 256
  f5 : ∀ c ∈ e.body, c < 256
  l1 : e.feed.length ≤ 10000
  l2 : e.guid.length ≤ 10000
  l3 : e.title.length ≤ 10000
  l4 : e.link.length ≤ 10000
  l5 : e.body.length ≤ 10000
  t0 : -9223372036854775808 ≤ e.time
  t1 : e.time ≤ 9223372036854775807
theorem EFit.of {e : E} (h : EntMath.Fit e) : EFit e := ⟨h.f1, h.f2, h.f3, h.f4, h.f5, by have := h.l1; omega, by have := h.l2; omega, by have := h.l3; omega, by have := h.l4; omega, by have := h.l5; omega, by have := h.t0; omega, by have := h.t1; omega⟩

set_option maxHeartbeats 16000000 in
theorem entClean_any (e : E) (w : World) (ht : MaxLen w) (hF : EFit e) :
    Calls Tryz.prog 12 #[entV e] w fun r w' => r = .returned (.tuple #[entV (EntMath.clean e).1, .int .i64 ((EntMath.clean e).2 : Int)]) ∧ Below w.heap.size w w' := by
  have HT : Hid _ := ht
  have HX : Hid (EntMath.clean e = EntMath.cleanG (AddrMath.parse e.feed).1 (AddrMath.parse e.feed).2 (EntMath.linkP e.link).1 (EntMath.linkP e.link).2 (TxtMath.cleanB e.guid) (TxtMath.cutB e.title 120) (TxtMath.cutB e.body 400) e.time) := rfl
  have hl2 := hF.l2; have hl3 := hF.l3; have hl5 := hF.l5
  have HP : Hid (∀ w, MaxLen w → _) := fun w ht => parse_at e.feed (AddrMath.parse e.feed).1 (AddrMath.parse e.feed).2 w ht hF.f1 hF.l1 (Prod.eta _).symm
  have HL : Hid (∀ w, MaxLen w → _) := fun w ht => linkForm_any e.link w ht hF.f4 hF.l4
  have HCt : Hid (∀ w, _) := fun w => cut_any e.title 120 w hF.f3 (by omega) (by omega)
  have HCb : Hid (∀ w, _) := fun w => cut_any e.body 400 w hF.f5 (by omega) (by omega)
  have HCg : Hid (∀ w, _) := fun w => clean_any e.guid w hF.f2 (by omega)
  have hlb := EntMath.linkP_lt e.link
  have htb := EntMath.cutB_lt e.title 120
  have hgb := cleanB_lt e.guid
  have hll := EntMath.linkP_len e.link
  have htl := EntMath.cutB_len e.title 120
  have hgl := cleanB_len e.guid
  have HA : Hid _ := EntAt.new w e
  have HB0 : Hid (Below w.heap.size w (w.alloc (.cells #[.string (strN e.feed), .string (strN e.guid), .string (strN e.title), .string (strN e.link), .string (strN e.body), .int .i64 e.time] 23))) := (Below.refl _ _).alloc (Nat.le_refl _) _
  have htime : e.time = e.time := rfl
  have hcode1 := AddrMath.parse_code e.feed
  have hcode2 := EntMath.linkP_code e.link
  generalize (AddrMath.parse e.feed).1 = f at *
  generalize (AddrMath.parse e.feed).2 = kf at *
  generalize (EntMath.linkP e.link).1 = l at *
  generalize (EntMath.linkP e.link).2 = kl at *
  generalize TxtMath.cleanB e.guid = g at *
  generalize TxtMath.cutB e.title 120 = t at *
  generalize TxtMath.cutB e.body 400 = b at *
  clear hF ht htime
  have HR0 : Hid (EntAt ((w.alloc (.cells #[.string (strN e.feed), .string (strN e.guid), .string (strN e.title), .string (strN e.link), .string (strN e.body), .int .i64 e.time] 23)).alloc (.cells #[.string ⟨#[]⟩, .string ⟨#[]⟩, .string ⟨#[]⟩, .string ⟨#[]⟩, .string ⟨#[]⟩, .int .i64 0] 23)) (w.heap.size + 1) EntMath.zero) := ⟨Arr.new _ _ (entL EntMath.zero) (by simp)⟩
  have HA0 : Hid _ := HA.out.alloc (.cells #[.string ⟨#[]⟩, .string ⟨#[]⟩, .string ⟨#[]⟩, .string ⟨#[]⟩, .string ⟨#[]⟩, .int .i64 0] 23)
  have HBz : Hid _ := HB0.out.alloc HB0.out.size (.cells #[.string ⟨#[]⟩, .string ⟨#[]⟩, .string ⟨#[]⟩, .string ⟨#[]⟩, .string ⟨#[]⟩, .int .i64 0] 23)
  clear HB0
  have HB0 : Hid _ := HBz.out
  clear HBz HA
  have HT0 : Hid (MaxLen _) := MaxLen.later HT.out HB0.out
  clear HT
  unfold entV at *
  go_enter Tryz.func12, Tryz.ntmps12
  go_wp2_with fail
  generalize World.alloc (World.alloc w _) _ = W0 at *
  have hG2 : w.heap.size ≤ w.heap.size + 1 := by omega
  generalize hGe : w.heap.size + 1 = G2 at *
  have hGG : w.heap.size < G2 := by omega
  clear hGe
  refine Calls.mono (HP.out _ HT0.out) ?_
  rintro r w1 ⟨rfl, hb⟩
  have HA1 : Hid _ := HA0.out.later hb HA0.out.lt
  have HR1 : Hid _ := HR0.out.later hb HR0.out.lt
  have HB1 : Hid _ := HB0.out.trans (hb.mono HB0.out.size)
  have HT1 : Hid (MaxLen _) := MaxLen.later HT0.out hb
  obtain ⟨c0, c1, c2, c3, c4, c5⟩ := HA1.out.cells
  have hlt1 := HA1.out.lt
  clear hb HA0 HR0 HB0 HT0
  clear c0
  clear c1
  clear c2
  clear c4
  clear c5
  obtain rfl | hk1 : kf = 0 ∨ 0 < kf := by omega
  rotate_left
  · have HQ : Hid (EntMath.cleanG f kf l kl g t b e.time = (EntMath.zero, kf)) := by unfold EntMath.cleanG; rw [if_pos (by omega)]; trivial
    go_wp2_with (refine wpList_store_ent rfl (.tmp 2) (.tmp 18) rfl G2 EntMath.zero EntMath.zero rfl rfl HR1.out ?_)
    refine ret_ent G2 EntMath.zero (.int .i64 (kf : Int)) rfl rfl rfl (EntAt.row HR1.out) rfl ⟨by rw [HX.out, HQ.out]; rfl, below_setRow HB1.out hG2 _⟩
  go_wp2_with fail
  refine Calls.mono (HL.out _ HT1.out) ?_
  rintro r w2 ⟨rfl, hb⟩
  have HA2 : Hid _ := HA1.out.later hb HA1.out.lt
  have HR2 : Hid _ := HR1.out.later hb HR1.out.lt
  have HB2 : Hid _ := HB1.out.trans (hb.mono HB1.out.size)
  have HT2 : Hid (MaxLen _) := MaxLen.later HT1.out hb
  obtain ⟨c0, c1, c2, c3, c4, c5⟩ := HA2.out.cells
  have hlt2 := HA2.out.lt
  clear hb HA1 HR1 HB1 HT1 hlt1
  clear c0
  clear c1
  clear c3
  clear c4
  clear c5
  obtain rfl | hk2 : kl = 0 ∨ 0 < kl := by omega
  rotate_left
  · have HQ : Hid (EntMath.cleanG f 0 l kl g t b e.time = (EntMath.zero, kl)) := by unfold EntMath.cleanG; rw [if_neg (by omega), if_pos (by omega)]; trivial
    go_wp2_with (refine wpList_store_ent rfl (.tmp 2) (.tmp 28) rfl G2 EntMath.zero EntMath.zero rfl rfl HR2.out ?_)
    refine ret_ent G2 EntMath.zero (.int .i64 (kl : Int)) rfl rfl rfl (EntAt.row HR2.out) rfl ⟨by rw [HX.out, HQ.out]; rfl, below_setRow HB2.out hG2 _⟩
  go_wp2_with fail
  refine Calls.mono (HCt.out _) ?_
  rintro r w3 ⟨rfl, hb⟩
  have HA3 : Hid _ := HA2.out.later hb HA2.out.lt
  have HR3 : Hid _ := HR2.out.later hb HR2.out.lt
  have HB3 : Hid _ := HB2.out.trans (hb.mono HB2.out.size)
  have HT3 : Hid (MaxLen _) := MaxLen.later HT2.out hb
  obtain ⟨c0, c1, c2, c3, c4, c5⟩ := HA3.out.cells
  have hlt3 := HA3.out.lt
  clear hb HA2 HR2 HB2 HT2 hlt2
  clear c0
  clear c2
  clear c3
  clear c4
  clear c5
  go_wp2_with fail
  refine Calls.mono (HCg.out _) ?_
  rintro r w4 ⟨rfl, hb⟩
  have HA4 : Hid _ := HA3.out.later hb HA3.out.lt
  have HR4 : Hid _ := HR3.out.later hb HR3.out.lt
  have HB4 : Hid _ := HB3.out.trans (hb.mono HB3.out.size)
  have HT4 : Hid (MaxLen _) := MaxLen.later HT3.out hb
  obtain ⟨c0, c1, c2, c3, c4, c5⟩ := HA4.out.cells
  have hlt4 := HA4.out.lt
  clear hb HA3 HR3 HB3 HT3 hlt3
  clear c0
  clear c1
  clear c2
  clear c3
  clear c4
  have hGb := EntMath.guidOf_lt hgb hlb htb
  have hGl : (EntMath.guidOf g l t).length ≤ 50000 := by unfold EntMath.guidOf; split <;> (try split) <;> omega
  have heq := strN_nil_eq (EntMath.guidOf g l t) hGb
  have HO : Hid _ := cmpOr_any g l t w4.heap.size (w4.alloc (.cells #[.string (strN g), .string (strN l), .string (strN t)] 9)) hgb hlb htb (by simp) (by simp) (by simp)
  have HRu : Hid (∀ w, _) := fun w => runes_any (EntMath.guidOf g l t) w hGb (by omega)
  have HY : Hid (EntMath.cleanG f 0 l 0 g t b e.time = EntMath.cleanG f 0 l 0 g t b e.time) := rfl
  go_wp2_with fail
  refine Calls.mono HO.out ?_
  rintro r w5 ⟨rfl, hw5⟩
  have HA5 : Hid (EntAt w5 w.heap.size e) := by rw [hw5]; exact HA4.out.alloc _
  have HR5 : Hid (EntAt w5 G2 EntMath.zero) := by rw [hw5]; exact HR4.out.alloc _
  have HB5 : Hid (Below w.heap.size w w5) := by rw [hw5]; exact HB4.out.alloc HB4.out.size _
  have HT5 : Hid (MaxLen w5) := by
    rw [hw5]; exact MaxLen.later HT4.out ((Below.refl _ _).alloc (Nat.le_refl _) _)
  have hlt5 := HA5.out.lt
  obtain ⟨c0, c1, c2, c3, c4, c5⟩ := HA5.out.cells
  clear hw5 HA4 HR4 HB4 HT4 hlt4 HO c0 c1 c2 c3 c4
  have HGo : Hid (EntMath.guidOf g l t = EntMath.guidOf g l t) := rfl
  have HQ0 : Hid (EntMath.cleanG f 0 l 0 g t b e.time = if EntMath.guidOf g l t = [] then (EntMath.zero, 26) else if 200 < (TxtMath.runes (EntMath.guidOf g l t)).length then (EntMath.zero, 23) else if e.time < 0 ∨ 281474976710655 < e.time then (EntMath.zero, 24) else (⟨f, EntMath.guidOf g l t, t, l, b, e.time⟩, 0)) := by
    show _ = _
    unfold EntMath.cleanG; rw [if_neg (by omega), if_neg (by omega)]
  clear HY HGo
  generalize EntMath.guidOf g l t = G at *
  by_cases hG : G = []
  · rw [show decide (G = []) = true by simp [hG]] at heq
    have HQ : Hid (EntMath.cleanG f 0 l 0 g t b e.time = (EntMath.zero, 26)) := by show _ = _; rw [HQ0.out, if_pos hG]
    clear hG HQ0
    go_wp2_with (refine wpList_store_ent rfl (.tmp 2) (.tmp 43) rfl G2 EntMath.zero EntMath.zero rfl rfl HR5.out ?_)
    refine ret_ent G2 EntMath.zero (.int .i64 26) rfl rfl rfl (EntAt.row HR5.out) rfl ⟨by rw [HX.out, HQ.out]; rfl, below_setRow HB5.out hG2 _⟩
  · rw [show decide (G = []) = false by simp [hG]] at heq
    have HQ1 : Hid _ := HQ0.out.trans (if_neg hG)
    clear hG HQ0
    generalize (TxtMath.runes G).length = n at *
    go_wp2_with fail
    refine Calls.mono (HRu.out _) ?_
    rintro r w6 ⟨rfl, hb⟩
    have HA6 : Hid _ := HA5.out.later hb HA5.out.lt
    have HR6 : Hid _ := HR5.out.later hb HR5.out.lt
    have HB6 : Hid _ := HB5.out.trans (hb.mono HB5.out.size)
    have HT6 : Hid (MaxLen _) := MaxLen.later HT5.out hb
    obtain ⟨c0, c1, c2, c3, c4, c5⟩ := HA6.out.cells
    have hlt6 := HA6.out.lt
    clear hb HA5 HR5 HB5 HT5 hlt5
    clear c0
    clear c1
    clear c2
    clear c3
    clear c4
    by_cases hn : 200 < n
    · have HQ : Hid _ := HQ1.out.trans (if_pos hn)
      clear HQ1
      go_wp2_with (refine wpList_store_ent rfl (.tmp 2) (.tmp 48) rfl G2 EntMath.zero EntMath.zero rfl rfl HR6.out ?_)
      refine ret_ent G2 EntMath.zero (.int .i64 23) rfl rfl rfl (EntAt.row HR6.out) rfl ⟨by rw [HX.out, HQ.out]; rfl, below_setRow HB6.out hG2 _⟩
    · have HQ2 : Hid _ := HQ1.out.trans (if_neg hn)
      have hn2 : (n : Int) ≤ 200 := by omega
      clear HQ1 hn
      by_cases htm : e.time < 0 ∨ 281474976710655 < e.time
      · have HQ : Hid _ := HQ2.out.trans (if_pos htm)
        clear HQ2
        rcases htm with htm | htm
        · go_wp2_with (refine wpList_store_ent rfl (.tmp 2) (.tmp 58) rfl G2 EntMath.zero EntMath.zero rfl rfl HR6.out ?_)
          refine ret_ent G2 EntMath.zero (.int .i64 24) rfl rfl rfl (EntAt.row HR6.out) rfl ⟨by rw [HX.out, HQ.out]; rfl, below_setRow HB6.out hG2 _⟩
        · have htm0 : 0 ≤ e.time := by omega
          go_wp2_with (refine wpList_store_ent rfl (.tmp 2) (.tmp 58) rfl G2 EntMath.zero EntMath.zero rfl rfl HR6.out ?_)
          refine ret_ent G2 EntMath.zero (.int .i64 24) rfl rfl rfl (EntAt.row HR6.out) rfl ⟨by rw [HX.out, HQ.out]; rfl, below_setRow HB6.out hG2 _⟩
      · have HQ : Hid _ := HQ2.out.trans (if_neg htm)
        have htm0 : 0 ≤ e.time := by omega
        have htm1 : e.time ≤ 281474976710655 := by omega
        clear HQ2 htm
        obtain ⟨_, _, _, _, c4, _⟩ := HA6.out.cells
        go_wp2_with fail
        refine Calls.mono (HCb.out _) ?_
        rintro r w7 ⟨rfl, hb⟩
        have HA7 : Hid _ := HA6.out.later hb HA6.out.lt
        have HR7 : Hid _ := HR6.out.later hb HR6.out.lt
        have HB7 : Hid _ := HB6.out.trans (hb.mono HB6.out.size)
        have HT7 : Hid (MaxLen _) := MaxLen.later HT6.out hb
        obtain ⟨c0, c1, c2, c3, c4, c5⟩ := HA7.out.cells
        have hlt7 := HA7.out.lt
        clear hb HA6 HR6 HB6 HT6 hlt6
        clear c0
        clear c1
        clear c2
        clear c3
        clear c4
        go_wp2_with (refine wpList_store_ent rfl (.tmp 2) (.tmp 69) rfl G2 EntMath.zero ⟨f, G, t, l, b, e.time⟩ rfl rfl HR7.out ?_)
        refine ret_ent G2 ⟨f, G, t, l, b, e.time⟩ (.int .i64 0) rfl rfl rfl (EntAt.row HR7.out) rfl ⟨by rw [HX.out, HQ.out]; rfl, below_setRow HB7.out hG2 _⟩
end Go.Proofs.YtccnokolfjkgcaaGreatDoor
namespace Go.Proofs.YtccnokolfjkgcaaGreatDoor
open Go.RowKit NumMath
open EntMath (E)
set_option maxRecDepth 100000
set_option linter.unusedVariables false
set_option linter.unusedSimpArgs false

theorem ent_differ {x e : E} (h : x ≠ e) (ht : x.time = e.time) (h1 : x.feed = e.feed) (h2 : x.guid = e.guid) (h3 : x.title = e.title) (h4 : x.link = e.link) : x.body ≠ e.body := by
  intro h5
  cases x; cases e
  simp_all

set_option maxHeartbeats 16000000 in
theorem entRight_any (e : E) (w : World) (ht : MaxLen w) (hF : EFit e) :
    Calls Tryz.prog 14 #[entV e] w fun r w' => r = .returned (.bool (EntMath.right e)) ∧ Below w.heap.size w w' := by
  have HC : Hid (∀ w, MaxLen w → _) := fun w ht => entClean_any e w ht hF
  have HA0 : Hid _ := EntAt.new w e
  have HB0 : Hid (Below w.heap.size w (w.alloc (.cells #[.string (strN e.feed), .string (strN e.guid), .string (strN e.title), .string (strN e.link), .string (strN e.body), .int .i64 e.time] 23))) := (Below.refl _ _).alloc (Nat.le_refl _) _
  have HT0 : Hid (MaxLen _) := MaxLen.later ht HB0.out
  have HR : Hid (EntMath.right e = decide (EntMath.clean e = (e, 0))) := rfl
  have hfx := EntMath.clean_any_fit e
  rcases hcl : EntMath.clean e with ⟨x, k⟩
  rw [hcl] at HC HR hfx
  simp only at hfx
  have e1 := strN_eq hfx.f1 hF.f1
  have e2 := strN_eq hfx.f2 hF.f2
  have e3 := strN_eq hfx.f3 hF.f3
  have e4 := strN_eq hfx.f4 hF.f4
  have e5 := strN_eq hfx.f5 hF.f5
  clear hcl ht
  by_cases hk : 0 < k
  · have HQ : Hid (EntMath.right e = false) := by
      show _ = _
      rw [HR.out]
      exact decide_eq_false (fun h => by have := (Prod.mk.inj h).2; omega)
    clear HR e1 e2 e3 e4 e5 hfx hF
    unfold entV at *
    go_enter Tryz.func14, Tryz.ntmps14
    go_wp2_with fail
    refine Calls.mono (HC.out _ HT0.out) ?_
    rintro r w1 ⟨rfl, hb⟩
    have HB1 : Hid _ := HB0.out.trans (hb.mono HB0.out.size)
    clear hb
    go_wp2
    go_ret
    rw [HQ.out]
    exact ⟨rfl, HB1.out.alloc HB1.out.size _⟩
  · obtain rfl : k = 0 := by omega
    clear hk
    by_cases hx : x = e
    · have HQ : Hid (EntMath.right e = true) := by
        show _ = _
        rw [HR.out, hx]
        simp
      clear HR e1 e2 e3 e4 e5 hfx hF
      subst hx
      unfold entV at *
      go_enter Tryz.func14, Tryz.ntmps14
      go_wp2_with fail
      refine Calls.mono (HC.out _ HT0.out) ?_
      rintro r w1 ⟨rfl, hb⟩
      have HA1 : Hid _ := HA0.out.later hb HA0.out.lt
      obtain ⟨c0, c1, c2, c3, c4, c5⟩ := HA1.out.cells
      have hlt := HA1.out.lt
      have HB1 : Hid _ := HB0.out.trans (hb.mono HB0.out.size)
      clear hb HA0 HB0
      go_wp2
      go_ret
      rw [HQ.out]
      exact ⟨rfl, HB1.out.alloc HB1.out.size _⟩
    · have HQ : Hid (EntMath.right e = false) := by
        show _ = _
        rw [HR.out]
        exact decide_eq_false (fun h => hx (Prod.mk.inj h).1)
      have HX : Hid _ := hx
      clear HR hfx hF hx
      unfold entV at *
      go_enter Tryz.func14, Tryz.ntmps14
      go_wp2_with fail
      refine Calls.mono (HC.out _ HT0.out) ?_
      rintro r w1 ⟨rfl, hb⟩
      have HA1 : Hid _ := HA0.out.later hb HA0.out.lt
      obtain ⟨c0, c1, c2, c3, c4, c5⟩ := HA1.out.cells
      have hlt := HA1.out.lt
      have HB1 : Hid _ := HB0.out.trans (hb.mono HB0.out.size)
      clear hb HA0 HB0
      go_wp2
      all_goals first
        | (go_ret; rw [HQ.out]; exact ⟨rfl, HB1.out.alloc HB1.out.size _⟩)
        | (exfalso; have hx := HX.out; rw [ent_eq_iff] at hx; simp_all)
end Go.Proofs.YtccnokolfjkgcaaGreatDoor
namespace EntMath
def after (l : List (List Nat)) (t : List (List Nat) × List Int × Nat) : List (List Nat) × List Int × Nat := if t.2.2 ≠ 0 then ([], [], t.2.2) else (l ++ t.1, t.2.1, 0)
theorem after_nil (k : Nat) (zs : List Int) : after [] (texts k zs) = texts k zs := by
  unfold after
  split
  · rename_i h
    cases k with
    | zero => exact absurd rfl h
    | succ k =>
      rw [texts] at h ⊢
      split
      · rfl
      · rename_i h1
        rw [if_neg h1] at h
        split
        · rfl
        · rename_i h2; rw [if_neg h2] at h; exact absurd rfl h
  · rename_i h
    have : (texts k zs).2.2 = 0 := by simpa using h
    rw [← this]; simp
theorem after_step {l : List (List Nat)} {k : Nat} {r r' : List Int} {s : List Nat} (h : takeT r = (s, r', 0)) : after l (texts (k + 1) r) = after (l ++ [s]) (texts k r') := by
  rw [texts_succ h]
  unfold after
  by_cases h2 : (texts k r').2.2 ≠ 0
  · rw [if_pos h2, if_pos h2, if_pos h2]
  · rw [if_neg h2, if_neg h2, if_neg (by simp)]; simp
theorem after_stop {l : List (List Nat)} {k : Nat} {r : List Int} {n : Nat} (h : takeT r = ([], [], n)) (hn : n ≠ 0) : after l (texts (k + 1) r) = ([], [], n) := by
  rw [texts_stop h hn]
  unfold after
  rw [if_pos hn]
end EntMath
namespace Go.Proofs.YtccnokolfjkgcaaGreatDoor
open Go.RowKit NumMath
open EntMath (E takeT texts ofTexts after)
set_option maxRecDepth 100000
set_option linter.unusedVariables false
set_option linter.unusedSimpArgs false

theorem ofTexts_set (l : List (List Nat)) (s : List Nat) (h : l.length < 5) : (entL (ofTexts l 0)).set l.length (.string (strN s)) = entL (ofTexts (l ++ [s]) 0) := by
  match l, h with
  | [], _ => rfl
  | [a], _ => rfl
  | [a, b], _ => rfl
  | [a, b, c], _ => rfl
  | [a, b, c, d], _ => rfl
theorem ofTexts_cell (l : List (List Nat)) (h : l.length < 5) : (entL (ofTexts l 0))[l.length]? = some (.string (strN [])) := by
  match l, h with
  | [], _ => rfl
  | [a], _ => rfl
  | [a, b], _ => rfl
  | [a, b, c], _ => rfl
  | [a, b, c, d], _ => rfl
theorem ofTexts_time (l : List (List Nat)) (v : Int) : (entL (ofTexts l 0)).set 5 (.int .i64 v) = entL (ofTexts l v) := rfl
def ptrs (G : Nat) : List Value := [.pointer (some ⟨G, 0, none⟩), .pointer (some ⟨G, 1, none⟩), .pointer (some ⟨G, 2, none⟩), .pointer (some ⟨G, 3, none⟩), .pointer (some ⟨G, 4, none⟩)]
theorem ptrs_at (G k : Nat) (hk : k < 5) : (ptrs G)[k]? = some (.pointer (some ⟨G, k, none⟩)) := by
  match k, hk with
  | 0, _ => rfl
  | 1, _ => rfl
  | 2, _ => rfl
  | 3, _ => rfl
  | 4, _ => rfl
structure PtrAt (w : World) (g G : Nat) : Prop where
  arr : Arr w g 78 (ptrs G)

theorem wrap_time {v : Int} (h0 : 0 ≤ v) (h1 : v ≤ 18446744073709551615) : (v ≤ 281474976710655 → IntKind.i64.wrap v = v) ∧ (281474976710655 < v → IntKind.i64.wrap v < 0 ∨ 281474976710655 < IntKind.i64.wrap v) ∧ -9223372036854775808 ≤ IntKind.i64.wrap v ∧ IntKind.i64.wrap v ≤ 9223372036854775807 := by
  rw [IntKind.wrap_i64]
  omega
theorem ofTexts_fit {l : List (List Nat)} {v : Int} (hb : ∀ s ∈ l, ∀ c ∈ s, c < 256) (hl : ∀ s ∈ l, s.length ≤ 10000) (h0 : -9223372036854775808 ≤ v) (h1 : v ≤ 9223372036854775807) : EFit (ofTexts l v) := by
  have hx : ∀ i : Nat, (∀ c ∈ l[i]?.getD [], c < 256) ∧ (l[i]?.getD []).length ≤ 10000 := by
    intro i
    cases h : l[i]? with
    | none => simp
    | some x => exact ⟨hb x (List.mem_of_getElem? h), hl x (List.mem_of_getElem? h)⟩
  exact ⟨(hx 0).1, (hx 1).1, (hx 2).1, (hx 3).1, (hx 4).1, (hx 0).2, (hx 1).2, (hx 2).2, (hx 3).2, (hx 4).2, h0, h1⟩
theorem not_right_time {e : E} (h : e.time < 0 ∨ 281474976710655 < e.time) : EntMath.right e = false := by
  cases hr : EntMath.right e with
  | false => rfl
  | true => have hf := EntMath.right_fit hr; have := hf.t0; have := hf.t1; omega

set_option maxHeartbeats 16000000 in
theorem entRead_any (a : Option Addr) (zs : List Int) (cap : Nat) (w : World) (ht : MaxLen w) (hR : Rest w a zs cap) (hb : ∀ c ∈ zs, 0 ≤ c ∧ c ≤ 255) (hS : ∀ s ∈ (texts 5 zs).1, s.length ≤ 10000) :
    Calls Tryz.prog 23 #[.slice a zs.length cap] w fun r w' => r = .returned (.tuple #[entV (EntMath.read zs).1, .int .i64 ((EntMath.read zs).2 : Int)]) ∧ Below w.heap.size w w' := by
  have HT0 : Hid _ := ht
  have HR0 : Hid _ := hR
  have HZ : Hid (EntAt (w.alloc (.cells #[.string ⟨#[]⟩, .string ⟨#[]⟩, .string ⟨#[]⟩, .string ⟨#[]⟩, .string ⟨#[]⟩, .int .i64 0] 23)) w.heap.size EntMath.zero) := EntAt.new w EntMath.zero
  have HB0 : Hid _ := hb
  have HS0 : Hid _ := hS
  clear ht hR hb hS
  go_enter Tryz.func23, Tryz.ntmps23
  go_wp2
  generalize hG2 : w.heap.size + 1 = G2 at *
  generalize hG3 : G2 + 1 = G3 at *
  have HGs : Hid (w.heap.size < G2 ∧ G2 < G3) := ⟨by omega, by omega⟩
  have HA0 : Hid (EntAt (((w.alloc (.cells #[.string ⟨#[]⟩, .string ⟨#[]⟩, .string ⟨#[]⟩, .string ⟨#[]⟩, .string ⟨#[]⟩, .int .i64 0] 23)).alloc (.cells #[.string ⟨#[]⟩, .string ⟨#[]⟩, .string ⟨#[]⟩, .string ⟨#[]⟩, .string ⟨#[]⟩, .int .i64 0] 23)).alloc (.cells #[.pointer (some ⟨G2, 0, none⟩), .pointer (some ⟨G2, 1, none⟩), .pointer (some ⟨G2, 2, none⟩), .pointer (some ⟨G2, 3, none⟩), .pointer (some ⟨G2, 4, none⟩)] 78)) w.heap.size EntMath.zero) := (HZ.out.alloc _).alloc _
  have HE0 : Hid (EntAt (((w.alloc (.cells #[.string ⟨#[]⟩, .string ⟨#[]⟩, .string ⟨#[]⟩, .string ⟨#[]⟩, .string ⟨#[]⟩, .int .i64 0] 23)).alloc (.cells #[.string ⟨#[]⟩, .string ⟨#[]⟩, .string ⟨#[]⟩, .string ⟨#[]⟩, .string ⟨#[]⟩, .int .i64 0] 23)).alloc (.cells #[.pointer (some ⟨G2, 0, none⟩), .pointer (some ⟨G2, 1, none⟩), .pointer (some ⟨G2, 2, none⟩), .pointer (some ⟨G2, 3, none⟩), .pointer (some ⟨G2, 4, none⟩)] 78)) G2 (ofTexts [] 0)) := by
    have h : EntAt ((w.alloc (.cells #[.string ⟨#[]⟩, .string ⟨#[]⟩, .string ⟨#[]⟩, .string ⟨#[]⟩, .string ⟨#[]⟩, .int .i64 0] 23)).alloc (.cells #[.string ⟨#[]⟩, .string ⟨#[]⟩, .string ⟨#[]⟩, .string ⟨#[]⟩, .string ⟨#[]⟩, .int .i64 0] 23)) G2 (ofTexts [] 0) := ⟨Arr.new _ _ (entL (ofTexts [] 0)) (by simp; omega)⟩
    exact h.alloc _
  have HPt0 : Hid (PtrAt (((w.alloc (.cells #[.string ⟨#[]⟩, .string ⟨#[]⟩, .string ⟨#[]⟩, .string ⟨#[]⟩, .string ⟨#[]⟩, .int .i64 0] 23)).alloc (.cells #[.string ⟨#[]⟩, .string ⟨#[]⟩, .string ⟨#[]⟩, .string ⟨#[]⟩, .string ⟨#[]⟩, .int .i64 0] 23)).alloc (.cells #[.pointer (some ⟨G2, 0, none⟩), .pointer (some ⟨G2, 1, none⟩), .pointer (some ⟨G2, 2, none⟩), .pointer (some ⟨G2, 3, none⟩), .pointer (some ⟨G2, 4, none⟩)] 78)) G3 G2) := ⟨Arr.new _ _ (ptrs G2) (by simp; omega)⟩
  have HBw0 : Hid _ := ((((Below.refl w.heap.size w).alloc (Nat.le_refl _) (.cells #[.string ⟨#[]⟩, .string ⟨#[]⟩, .string ⟨#[]⟩, .string ⟨#[]⟩, .string ⟨#[]⟩, .int .i64 0] 23)).alloc (by simp) (.cells #[.string ⟨#[]⟩, .string ⟨#[]⟩, .string ⟨#[]⟩, .string ⟨#[]⟩, .string ⟨#[]⟩, .int .i64 0] 23)).alloc (by simp; omega) (.cells #[.pointer (some ⟨G2, 0, none⟩), .pointer (some ⟨G2, 1, none⟩), .pointer (some ⟨G2, 2, none⟩), .pointer (some ⟨G2, 3, none⟩), .pointer (some ⟨G2, 4, none⟩)] 78))
  clear HZ hG2 hG3
  generalize World.alloc (World.alloc (World.alloc w _) _) _ = W0 at *
  go_loopw [0, 18] (fun t0 i wr => ∃ (k : Nat) (l : List (List Nat)) (ao : Option Addr) (r : List Int) (c : Nat), k ≤ 5 ∧ i = .int .i64 (k : Int) ∧ t0 = .slice ao r.length c ∧ l.length = k ∧ EntAt wr G2 (ofTexts l 0) ∧ EntAt wr w.heap.size EntMath.zero ∧ PtrAt wr G3 G2 ∧ Below w.heap.size w wr ∧ Rest w ao r c ∧ (∀ c ∈ r, 0 ≤ c ∧ c ≤ 255) ∧ texts 5 zs = after l (texts (5 - k) r)) (fun _ i _ => 5 - (intOf i).toNat)
  case atStart => exact ⟨0, [], a, zs, cap, by omega, rfl, rfl, rfl, HE0.out, HA0.out, HPt0.out, HBw0.out, HR0.out, HB0.out, (EntMath.after_nil 5 zs).symm⟩
  case round =>
    clear HE0 HA0 HPt0 HBw0
    obtain ⟨k, l, ao, r, c, hk, rfl, rfl, hl, hE, hA, hP, hBw, hRr, hbr, htx⟩ := hrel
    have HTr : Hid (MaxLen wr) := MaxLen.later HT0.out hBw
    have HTk : Hid _ := takeText_any ao r c wr (hRr.later hBw) hbr
    have HE : Hid _ := hE
    have HA : Hid _ := hA
    have HBw : Hid _ := hBw
    have HRr : Hid _ := hRr
    have HX : Hid _ := htx
    have HL : Hid _ := hl
    have HBr : Hid _ := hbr
    have HP : Hid _ := hP
    by_cases hlt : k < 5
    · have hpc := (Arr.cell hP.arr k).trans (ptrs_at G2 k hlt)
      clear hE hA hP hBw hRr hbr htx hl
      go_wp2_with fail
      refine Calls.mono HTk.out ?_
      rintro e w1 ⟨hb1, hcases⟩
      have HE1 : Hid _ := HE.out.later hb1 HE.out.lt
      have HA1 : Hid _ := HA.out.later hb1 HA.out.lt
      have HP1 : Hid (PtrAt w1 G3 G2) := ⟨Arr.later HP.out.arr hb1 HP.out.arr.lt⟩
      have HB1 : Hid _ := HBw.out.trans (hb1.mono HBw.out.size)
      have hcell : w1.cell? ⟨G2, k, none⟩ = some (.string (strN [])) := by
        have h1 := Arr.cell HE1.out.arr k
        have h2 := ofTexts_cell l (by have := HL.out; omega)
        rw [HL.out] at h2
        rw [h1, h2]
      have hfz := HE1.out.frozen k
      have hlt1 := HE1.out.lt
      clear hb1 HE HA HP HBw HTk
      rcases hcases with ⟨hc0, ao', c', rfl, hRest⟩ | ⟨hc0, rfl⟩ | ⟨hc0, rfl⟩
      · have HC0 : Hid _ := hc0
        have HRest : Hid _ := hRest
        clear hc0 hRest
        go_wp2
        refine ⟨⟨k + 1, l ++ [(takeT r).1], ao', (takeT r).2.1, c', by omega, by go_num, rfl, by simp [HL.out], ?_, ?_, ?_, HB1.out.setCell (by have := HGs.out; show w.heap.size ≤ G2; omega) _, HRest.out _ HRr.out, ?_, ?_⟩, by simp [intOf]; omega⟩
        · have h1 := Arr.set HE1.out.arr k (.string (strN (takeT r).1))
          have h2 := ofTexts_set l (takeT r).1 (by have := HL.out; omega)
          rw [HL.out] at h2
          rw [h2] at h1
          exact ⟨h1⟩
        · exact ⟨Arr.set_other HA1.out.arr _ (by have := HGs.out; show w.heap.size ≠ G2; omega) _⟩
        · exact ⟨Arr.set_other HP1.out.arr _ (by have := HGs.out; show G3 ≠ G2; omega) _⟩
        · exact (EntMath.takeT_one r HBr.out HC0.out).2.2.2.1
        · have h5 : 5 - k = (5 - (k + 1)) + 1 := by omega
          rw [HX.out, h5]
          exact EntMath.after_step (by rw [← HC0.out])
      · have HQ : Hid (EntMath.read zs = (EntMath.zero, 20)) := by
          show _ = _
          have h5 : 5 - k = (5 - (k + 1)) + 1 := by omega
          have h6 := HX.out
          rw [h5, EntMath.after_stop hc0 (by decide)] at h6
          unfold EntMath.read
          rw [h6]; rfl
        clear hc0
        go_wp2_with (refine wpList_store_ent rfl (.tmp 2) (.tmp 32) rfl w.heap.size EntMath.zero EntMath.zero rfl rfl ⟨Arr.set_other HA1.out.arr _ (by have := HGs.out; show w.heap.size ≠ G2; omega) _⟩ ?_)
        refine ret_ent w.heap.size EntMath.zero (.int .i64 20) rfl rfl rfl (EntAt.row ⟨Arr.set_other HA1.out.arr _ (by have := HGs.out; show w.heap.size ≠ G2; omega) _⟩) rfl ⟨by rw [HQ.out]; rfl, below_setRow (HB1.out.setCell (by have := HGs.out; show w.heap.size ≤ G2; omega) _) (Nat.le_refl _) _⟩
      · have HQ : Hid (EntMath.read zs = (EntMath.zero, 21)) := by
          show _ = _
          have h5 : 5 - k = (5 - (k + 1)) + 1 := by omega
          have h6 := HX.out
          rw [h5, EntMath.after_stop hc0 (by decide)] at h6
          unfold EntMath.read
          rw [h6]; rfl
        clear hc0
        go_wp2_with (refine wpList_store_ent rfl (.tmp 2) (.tmp 32) rfl w.heap.size EntMath.zero EntMath.zero rfl rfl ⟨Arr.set_other HA1.out.arr _ (by have := HGs.out; show w.heap.size ≠ G2; omega) _⟩ ?_)
        refine ret_ent w.heap.size EntMath.zero (.int .i64 21) rfl rfl rfl (EntAt.row ⟨Arr.set_other HA1.out.arr _ (by have := HGs.out; show w.heap.size ≠ G2; omega) _⟩) rfl ⟨by rw [HQ.out]; rfl, below_setRow (HB1.out.setCell (by have := HGs.out; show w.heap.size ≤ G2; omega) _) (Nat.le_refl _) _⟩
    · obtain rfl : k = 5 := by omega
      clear hk hlt
      have htx2 : texts 5 zs = (l, r, 0) := by
        rw [htx]; show after l ([], r, 0) = _
        unfold EntMath.after; rw [if_neg (by simp)]; simp
      have hrd : EntMath.read zs = EntMath.readE l r := by
        unfold EntMath.read; rw [htx2]; rfl
      obtain ⟨_, _, hlb, _, _⟩ := EntMath.texts_one 5 zs HB0.out (by rw [htx2])
      have hls := HS0.out
      rw [htx2] at hlb hls
      simp only at hlb hls
      have hT := take_any ao r c wr (Row.later hRr.row hBw) hbr hRr.len hRr.lim
      have hrl := hRr.len
      have hrc := hRr.lim
      have hrci : (r.length : Int) ≤ 9223372036854775807 := by unfold maxLen at hrc; omega
      clear hE hA hP hBw hRr htx HX HTk hl
      rcases tak_cases r hbr with h | h | ⟨j, v, hj, hjl, hv0, hv1, h, hD⟩
      · have HQ : Hid (EntMath.read zs = (EntMath.zero, 20)) := by show _ = _; rw [hrd]; unfold EntMath.readE; rw [h]; rfl
        rw [h] at hT
        unfold takV at hT
        have HT : Hid _ := hT
        clear hT h hbr hlb hls htx2 hrd
        go_wp2_with fail
        refine Calls.mono HT.out ?_
        rintro e w1 ⟨rfl, hw1⟩
        subst w1
        go_wp2_with (refine wpList_store_ent rfl (.tmp 2) (.tmp 43) rfl w.heap.size EntMath.zero EntMath.zero rfl rfl HA.out ?_)
        refine ret_ent w.heap.size EntMath.zero (.int .i64 20) rfl rfl rfl (EntAt.row HA.out) rfl ⟨by rw [HQ.out]; rfl, below_setRow HBw.out (Nat.le_refl _) _⟩
      · have HQ : Hid (EntMath.read zs = (EntMath.zero, 21)) := by show _ = _; rw [hrd]; unfold EntMath.readE; rw [h]; rfl
        rw [h] at hT
        unfold takV at hT
        have HT : Hid _ := hT
        clear hT h hbr hlb hls htx2 hrd
        go_wp2_with fail
        refine Calls.mono HT.out ?_
        rintro e w1 ⟨rfl, hw1⟩
        subst w1
        go_wp2_with (refine wpList_store_ent rfl (.tmp 2) (.tmp 43) rfl w.heap.size EntMath.zero EntMath.zero rfl rfl HA.out ?_)
        refine ret_ent w.heap.size EntMath.zero (.int .i64 21) rfl rfl rfl (EntAt.row HA.out) rfl ⟨by rw [HQ.out]; rfl, below_setRow HBw.out (Nat.le_refl _) _⟩
      · obtain ⟨n, hn⟩ : ∃ n, n = j + 1 := ⟨_, rfl⟩
        obtain ⟨m, hm⟩ : ∃ m : Nat, v = (m : Int) := ⟨v.toNat, by omega⟩
        subst hm
        rw [show (j : Int) + 1 = (n : Int) by omega] at h
        rw [h] at hT
        unfold takV at hT
        have HT : Hid _ := hT
        obtain ⟨hw1, hw2, hw3, hw4⟩ := wrap_time hv0 hv1
        have hfit := ofTexts_fit (v := IntKind.i64.wrap (m : Int)) hlb hls hw3 hw4
        have hrd2 : EntMath.read zs = if 281474976710655 < (m : Int) ∨ (n : Int) < (r.length : Int) then (EntMath.zero, 21) else if EntMath.right (ofTexts l (m : Int)) = true then (ofTexts l (m : Int), 0) else (EntMath.zero, 21) := by
          rw [hrd]; unfold EntMath.readE; rw [h]; simp
        have hF5 := HE.out.frozen 5
        have hcell5 := (HE.out.cells).2.2.2.2.2
        have HE2 : Hid (EntAt (wr.setCell ⟨G2, 5, none⟩ (.int .i64 (IntKind.i64.wrap (m : Int)))) G2 (ofTexts l (IntKind.i64.wrap (m : Int)))) := ⟨Arr.set HE.out.arr 5 _⟩
        have HA2 : Hid (EntAt (wr.setCell ⟨G2, 5, none⟩ (.int .i64 (IntKind.i64.wrap (m : Int)))) w.heap.size EntMath.zero) := ⟨Arr.set_other HA.out.arr _ (by have := HGs.out; show w.heap.size ≠ G2; omega) _⟩
        have HB2 : Hid (Below w.heap.size w (wr.setCell ⟨G2, 5, none⟩ (.int .i64 (IntKind.i64.wrap (m : Int))))) := HBw.out.setCell (by have := HGs.out; show w.heap.size ≤ G2; omega) _
        have HRd : Hid _ := hrd2
        clear hT h hbr hlb hls htx2 hrd hrd2 hD
        have hwv : IntKind.i64.wrap (m : Int) = IntKind.i64.wrap (m : Int) := rfl
        generalize hwv2 : IntKind.i64.wrap (m : Int) = v at hw1 hw2 hw3 hw4 hfit HE2 HA2 HB2 hwv
        have hwr : IntKind.i64.wrap (m : Int) = v := hwv2
        have HRi : Hid (∀ w, MaxLen w → _) := fun w ht => entRight_any (ofTexts l v) w ht hfit
        have HT2 : Hid (MaxLen _) := MaxLen.later HT0.out HB2.out
        have HNR : Hid (281474976710655 < (m : Int) → EntMath.right (ofTexts l v) = false) := fun h => not_right_time (hw2 h)
        have HVM : Hid ((m : Int) ≤ 281474976710655 → v = (m : Int)) := hw1
        have c0 : wr.cell? ⟨G2, 0, none⟩ = some (.string (strN (ofTexts l v).feed)) := HE.out.cells.1
        have c1 : wr.cell? ⟨G2, 1, none⟩ = some (.string (strN (ofTexts l v).guid)) := HE.out.cells.2.1
        have c2 : wr.cell? ⟨G2, 2, none⟩ = some (.string (strN (ofTexts l v).title)) := HE.out.cells.2.2.1
        have c3 : wr.cell? ⟨G2, 3, none⟩ = some (.string (strN (ofTexts l v).link)) := HE.out.cells.2.2.2.1
        have c4 : wr.cell? ⟨G2, 4, none⟩ = some (.string (strN (ofTexts l v).body)) := HE.out.cells.2.2.2.2.1
        have hltG := HE.out.lt
        obtain ⟨rl, hrll⟩ : ∃ rl, rl = r.length := ⟨_, rfl⟩
        rw [← hrll] at HT hrl hrci HRd hjl ⊢
        have hnn : n ≤ rl := by omega
        clear hn hjl hj hw1 hw2 hw3 hw4 hfit hwv hwv2 hrll hv0
        by_cases hlt : n < rl
        · have HQ : Hid (EntMath.read zs = (EntMath.zero, 21)) := by show _ = _; rw [HRd.out, if_pos (by right; omega)]
          clear HRd HNR HVM c0 c1 c2 c3 c4
          go_wp2_with fail
          refine Calls.mono HT.out ?_
          rintro e w1 ⟨rfl, hww⟩
          subst w1
          go_wp2_with (refine wpList_store_ent rfl (.tmp 2) (.tmp 57) rfl w.heap.size EntMath.zero EntMath.zero rfl rfl HA2.out ?_)
          refine ret_ent w.heap.size EntMath.zero (.int .i64 21) rfl rfl rfl (EntAt.row HA2.out) rfl ⟨by rw [HQ.out]; rfl, below_setRow HB2.out (Nat.le_refl _) _⟩
        · have hge : (rl : Int) ≤ (n : Int) := by omega
          have hge2 : rl ≤ n := by omega
          clear hlt
          cases hB : EntMath.right (ofTexts l v) with
          | false =>
            have HQ : Hid (EntMath.read zs = (EntMath.zero, 21)) := by
              show _ = _; rw [HRd.out]
              by_cases hbig : 281474976710655 < (m : Int)
              · rw [if_pos (.inl hbig)]
              · rw [if_neg (by omega), ← HVM.out (by omega), hB]; simp
            rw [hB] at HRi
            clear HRd HNR HVM hB
            unfold entV at HRi
            go_wp2_with fail
            refine Calls.mono HT.out ?_
            rintro e w1 ⟨rfl, hww⟩
            subst w1
            go_wp2_with fail
            refine Calls.mono (HRi.out _ HT2.out) ?_
            rintro e w3 ⟨rfl, hb3⟩
            have HA3 : Hid _ := HA2.out.later hb3 HA2.out.lt
            have HB3 : Hid _ := HB2.out.trans (hb3.mono HB2.out.size)
            clear hb3
            go_wp2_with (refine wpList_store_ent rfl (.tmp 2) (.tmp 57) rfl w.heap.size EntMath.zero EntMath.zero rfl rfl HA3.out ?_)
            refine ret_ent w.heap.size EntMath.zero (.int .i64 21) rfl rfl rfl (EntAt.row HA3.out) rfl ⟨by rw [HQ.out]; rfl, below_setRow HB3.out (Nat.le_refl _) _⟩
          | true =>
            have HQ : Hid (EntMath.read zs = (ofTexts l v, 0)) := by
              show _ = _; rw [HRd.out]
              by_cases hbig : 281474976710655 < (m : Int)
              · have := HNR.out hbig; rw [hB] at this; cases this
              · rw [if_neg (by omega), ← HVM.out (by omega), if_pos hB]
            rw [hB] at HRi
            clear HRd HNR HVM hB
            unfold entV at HRi
            go_wp2_with fail
            refine Calls.mono HT.out ?_
            rintro e w1 ⟨rfl, hww⟩
            subst w1
            go_wp2_with fail
            refine Calls.mono (HRi.out _ HT2.out) ?_
            rintro e w3 ⟨rfl, hb3⟩
            have HA3 : Hid _ := HA2.out.later hb3 HA2.out.lt
            have HE3 : Hid _ := HE2.out.later hb3 HE2.out.lt
            have HB3 : Hid _ := HB2.out.trans (hb3.mono HB2.out.size)
            obtain ⟨d0, d1, d2, d3, d4, d5⟩ := HE3.out.cells
            have hltG3 := HE3.out.lt
            clear hb3 c0 c1 c2 c3 c4 hltG
            go_wp2_with (refine wpList_store_ent rfl (.tmp 2) (.tmp 58) rfl w.heap.size EntMath.zero (ofTexts l v) rfl rfl HA3.out ?_)
            refine ret_ent w.heap.size (ofTexts l v) (.int .i64 0) rfl rfl rfl (EntAt.row HA3.out) rfl ⟨by rw [HQ.out]; rfl, below_setRow HB3.out (Nat.le_refl _) _⟩
end Go.Proofs.YtccnokolfjkgcaaGreatDoor

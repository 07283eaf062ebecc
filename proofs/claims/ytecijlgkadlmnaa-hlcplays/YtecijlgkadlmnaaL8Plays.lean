/-
  The walk of HlcPlays.
-/
import Derived.Test.YtecijlgkadlmnaaFnPlay
import Derived.Test.YtecijlgkadlmnaaOpenAc
import Derived.Deep.Cut
namespace Go.Proofs.Ytecijlgkadlmnaa
open Go.RowKit NumMath
open StMath (St)
open HlcMath (Ck)
set_option maxRecDepth 100000
set_option linter.unusedVariables false
set_option linter.unusedSimpArgs false

theorem nearA_fit {a : Ac} (h : FitA a) : 0 ≤ (nearA a).k ∧ (nearA a).k ≤ 255 := h

set_option maxRecDepth 100000 in
set_option maxHeartbeats 16000000 in
theorem hlcPlays_false (r m d : Int) (a : Option Addr) (xs : List Ac) (cap : Nat) (W : World) (hr : ARow W a xs) (hc : xs.length ≤ cap) (hm : cap ≤ maxLen) (hf : ∀ x ∈ xs, FitA x) :
    Calls Try.prog 3 #[.int .i64 r, .int .i64 m, .int .i64 d, .slice a xs.length cap, .bool false] W fun e w' => e = .returned (.bool true) ∧ Below W.heap.size W w' := by
  obtain ⟨n, hnn⟩ : ∃ n, n = xs.length := ⟨_, rfl⟩
  have HN : Hid (n = xs.length) := hnn
  rw [← hnn] at hc ⊢
  have HAT : Hid (∀ j, j < n → ∃ b off x, a = some ⟨b, off, none⟩ ∧ W.rangeAt b (off + j * 5) (acL x) ∧ 0 ≤ x.k ∧ x.k ≤ 255) := fun j hj => by
    obtain ⟨b, off, ha, hcell⟩ := hr.at (by omega)
    have hb := hf (xs[j]?.getD ac0) (by
      have : j < xs.length := by omega
      simp [this])
    exact ⟨b, off, xs[j]?.getD ac0, ha, hcell j (by omega), hb.1, hb.2⟩
  clear hnn hr hf
  have HK : Hid _ := known8_any W
  have e1 : bits .and .i64 r 63 = r % 64 := and63i _
  have e2 : bits .and .i64 m 3 = m % 4 := and3 _
  have e3 : bits .and .i64 d 15 = d % 16 := and15i _
  go_enter Try.func3, Try.ntmps3
  go_wp2_with fail
  refine Calls.mono HK.out ?_
  rintro e w1 ⟨rfl, hb1⟩
  have HB1 : Hid _ := hb1
  clear hb1 HK
  by_cases hbig : 400 < n
  · go_wp2
    go_ret
    exact ⟨rfl, HB1.out⟩
  go_wp2_with fail
  refine Calls.mono (new_any (r) (m) (d) _) ?_
  rintro e w2 ⟨hb2, ⟨hk, rfl⟩ | ⟨hok, g, hg, rfl, hc2⟩⟩
  · have HB2 : Hid (Below W.heap.size W w2) := HB1.out.trans (hb2.mono HB1.out.size)
    clear hb2
    go_wp2_with fail
    refine Calls.mono (refNew_any (r) (m) (d) _) ?_
    rintro e w3 ⟨hb3, ⟨_, rfl⟩ | ⟨hok, _⟩⟩
    · have HB3 : Hid (Below W.heap.size W w3) := HB2.out.trans (hb3.mono HB2.out.size)
      clear hb3 hk
      go_wp2
      go_ret
      exact ⟨rfl, HB3.out⟩
    · rw [hk] at hok; cases hok
  have HB2 : Hid (Below W.heap.size W w2) := HB1.out.trans (hb2.mono HB1.out.size)
  have HC2 : Hid (CkAt w2 g ⟨⟨0, 0, r⟩, m, d⟩) := hc2
  have hgW : W.heap.size ≤ g := Nat.le_trans HB1.out.size hg
  clear hb2 hc2 hg HB1
  go_wp2_with fail
  refine Calls.mono (refNew_any (r) (m) (d) _) ?_
  rintro e w3 ⟨hb3, ⟨hk, rfl⟩ | ⟨_, gd, hgd, rfl, hd3⟩⟩
  · rw [hk] at hok; cases hok
  have HB3 : Hid (Below W.heap.size W w3) := HB2.out.trans (hb3.mono HB2.out.size)
  have HC3 : Hid (CkAt w3 g ⟨⟨0, 0, r⟩, m, d⟩) := HC2.out.later hb3 HC2.out.lt
  have HD3 : Hid (RkAt w3 gd ⟨⟨0, 0, r⟩, m, d⟩) := hd3
  have HO3 : Hid (HlcMath.Ok ⟨⟨0, 0, r⟩, m, d⟩) := newOk_ok hok
  have hgl := HC2.out.lt
  have hgne : g ≠ gd := by omega
  have hgdW : W.heap.size ≤ gd := by omega
  clear hb3 hd3 hgd HB2 HC2 hok hgl
  go_wp2
  go_loopw [15] (fun i wr => ∃ (j : Nat) (c : Ck), j ≤ n ∧ i = .int .i64 j ∧ CkAt wr g c ∧ RkAt wr gd c ∧ HlcMath.Ok c ∧ Below W.heap.size W wr) (fun i _ => n - (intOf i).toNat)
  case atStart => exact ⟨0, _, by omega, rfl, HC3.out, HD3.out, HO3.out, HB3.out⟩
  case round =>
    obtain ⟨j, c, hj, rfl, hC, hD, hO, hB⟩ := hrel
    have HC : Hid (CkAt wr g c) := hC
    have HD : Hid (RkAt wr gd c) := hD
    have HO : Hid (HlcMath.Ok c) := hO
    have HB : Hid (Below W.heap.size W wr) := hB
    clear hC hD hO hB HC3 HD3 HO3 HB3
    by_cases hjn : j < n
    · obtain ⟨b, off, x, rfl, hx, hx0, hx1⟩ := HAT.out j hjn
      have HXr : Hid (wr.rangeAt b (off + j * 5) (acL x)) := range_later hx HB.out
      have HXn : Hid ((wr.alloc (.cells #[.int .u8 0, .int .i64 0, .int .i64 0, .int .i64 0, .int .i64 0] 34)).rangeAt b (off + j * 5) (acL x)) := range_later HXr.out ((Below.refl _ _).alloc (Nat.le_refl _) _)
      have HN0 : Hid (AcAt (wr.alloc (.cells #[.int .u8 0, .int .i64 0, .int .i64 0, .int .i64 0, .int .i64 0] 34)) wr.heap.size ac0) := AcAt.new wr ac0 rfl
      have hlg : g < wr.heap.size := HC.out.lt
      have hlgd : gd < wr.heap.size := HD.out.lt
      have hlW : W.heap.size ≤ wr.heap.size := HB.out.size
      have HC1 : Hid (CkAt ((wr.alloc (.cells #[.int .u8 0, .int .i64 0, .int .i64 0, .int .i64 0, .int .i64 0] 34)).setRow wr.heap.size (acL x).toArray) g c) := CkAt.row_other (HC.out.alloc _) _ (by omega)
      have HD1 : Hid (RkAt ((wr.alloc (.cells #[.int .u8 0, .int .i64 0, .int .i64 0, .int .i64 0, .int .i64 0] 34)).setRow wr.heap.size (acL x).toArray) gd c) := RkAt.row_other (HD.out.alloc _) _ (by omega)
      have HX1 : Hid (AcAt ((wr.alloc (.cells #[.int .u8 0, .int .i64 0, .int .i64 0, .int .i64 0, .int .i64 0] 34)).setRow wr.heap.size (acL x).toArray) wr.heap.size x) := AcAt.row HN0.out
      have HB1 : Hid (Below W.heap.size W ((wr.alloc (.cells #[.int .u8 0, .int .i64 0, .int .i64 0, .int .i64 0, .int .i64 0] 34)).setRow wr.heap.size (acL x).toArray)) := below_setRow (HB.out.alloc hlW _) hlW _
      clear HC HD HB hx
      go_upto_region 15 with (first
        | refine wpList_load_mid rfl 34 (.tmp 73) rfl b (off + j * 5) rfl (acL x) _ HXr.out Try.underlying34 rfl sizeAc ?_
        | refine wpList_load_mid rfl 34 (.tmp 73) rfl b (off + j * 5) rfl (acL x) _ HXn.out Try.underlying34 rfl sizeAc ?_
        | refine wpList_store_arr rfl 34 (.tmp 16) (.tmp 74) rfl wr.heap.size 34 (acL ac0) (acL x) rfl rfl HN0.out.arr sizeAc rfl (acL_one x) ?_)
      clear HXr HXn HN0
      generalize (wr.alloc (.cells #[.int .u8 0, .int .i64 0, .int .i64 0, .int .i64 0, .int .i64 0] 34)).setRow wr.heap.size (acL x).toArray = w1 at *
      generalize wr.heap.size = gx at *
      go_wp2_with (refine wpList_load_mid rfl 34 (.tmp 16) rfl gx 0 rfl (acL x) _ (range_of_arr HX1.out.arr) Try.underlying34 rfl sizeAc ?_)
      refine Calls.mono (play_any g gd c x w1 hgne HC1.out HD1.out HO.out hx0 hx1) ?_
      rintro e w2 ⟨rfl, hc2, hd2, ht2⟩
      have HX2 : Hid (AcAt w2 gx x) := HX1.out.two ht2 (by omega) (by omega)
      have HC2 : Hid (CkAt w2 g (stepA c x)) := hc2
      have HD2 : Hid (RkAt w2 gd (stepA c x)) := hd2
      have HO2 : Hid (HlcMath.Ok (stepA c x)) := stepA_ok HO.out x
      have HB2 : Hid (Below W.heap.size W w2) := Below.two HB1.out ht2 HB1.out.size hgW hgdW
      clear hc2 hd2 ht2 HX1 HC1 HD1 HO HB1
      go_wp2
      go_roundw
      case rel => exact ⟨j + 1, _, by omega, by go_num, HC2.out, HD2.out, HO2.out, HB2.out⟩
      case measure => simp [intOf]; omega
    · have hjk : j = n := by omega
      have hdk : decide ((j : Int) < (n : Int)) = false := by simp; omega
      go_wp2
      go_ret
      exact ⟨rfl, HB.out⟩

set_option maxRecDepth 100000 in
set_option maxHeartbeats 16000000 in
theorem hlcPlays_true (r m d : Int) (a : Option Addr) (xs : List Ac) (cap : Nat) (W : World) (hr : ARow W a xs) (hc : xs.length ≤ cap) (hm : cap ≤ maxLen) (hf : ∀ x ∈ xs, FitA x) :
    Calls Try.prog 3 #[.int .i64 r, .int .i64 m, .int .i64 d, .slice a xs.length cap, .bool true] W fun e w' => e = .returned (.bool true) ∧ Below W.heap.size W w' := by
  obtain ⟨n, hnn⟩ : ∃ n, n = xs.length := ⟨_, rfl⟩
  have HN : Hid (n = xs.length) := hnn
  rw [← hnn] at hc ⊢
  have HAT : Hid (∀ j, j < n → ∃ b off x, a = some ⟨b, off, none⟩ ∧ W.rangeAt b (off + j * 5) (acL x) ∧ 0 ≤ x.k ∧ x.k ≤ 255) := fun j hj => by
    obtain ⟨b, off, ha, hcell⟩ := hr.at (by omega)
    have hb := hf (xs[j]?.getD ac0) (by
      have : j < xs.length := by omega
      simp [this])
    exact ⟨b, off, xs[j]?.getD ac0, ha, hcell j (by omega), hb.1, hb.2⟩
  clear hnn hr hf
  have HK : Hid _ := known8_any W
  have e1 : bits .and .i64 r 63 = r % 64 := and63i _
  have e2 : bits .and .i64 m 3 = m % 4 := and3 _
  have e3 : bits .and .i64 d 15 = d % 16 := and15i _
  go_enter Try.func3, Try.ntmps3
  go_wp2_with fail
  refine Calls.mono HK.out ?_
  rintro e w1 ⟨rfl, hb1⟩
  have HB1 : Hid _ := hb1
  clear hb1 HK
  by_cases hbig : 400 < n
  · go_wp2
    go_ret
    exact ⟨rfl, HB1.out⟩
  go_wp2_with fail
  refine Calls.mono (new_any (r % 64) (m % 4) (d % 16) _) ?_
  rintro e w2 ⟨hb2, ⟨hk, rfl⟩ | ⟨hok, g, hg, rfl, hc2⟩⟩
  · have HB2 : Hid (Below W.heap.size W w2) := HB1.out.trans (hb2.mono HB1.out.size)
    clear hb2
    go_wp2_with fail
    refine Calls.mono (refNew_any (r % 64) (m % 4) (d % 16) _) ?_
    rintro e w3 ⟨hb3, ⟨_, rfl⟩ | ⟨hok, _⟩⟩
    · have HB3 : Hid (Below W.heap.size W w3) := HB2.out.trans (hb3.mono HB2.out.size)
      clear hb3 hk
      go_wp2
      go_ret
      exact ⟨rfl, HB3.out⟩
    · rw [hk] at hok; cases hok
  have HB2 : Hid (Below W.heap.size W w2) := HB1.out.trans (hb2.mono HB1.out.size)
  have HC2 : Hid (CkAt w2 g ⟨⟨0, 0, r % 64⟩, m % 4, d % 16⟩) := hc2
  have hgW : W.heap.size ≤ g := Nat.le_trans HB1.out.size hg
  clear hb2 hc2 hg HB1
  go_wp2_with fail
  refine Calls.mono (refNew_any (r % 64) (m % 4) (d % 16) _) ?_
  rintro e w3 ⟨hb3, ⟨hk, rfl⟩ | ⟨_, gd, hgd, rfl, hd3⟩⟩
  · rw [hk] at hok; cases hok
  have HB3 : Hid (Below W.heap.size W w3) := HB2.out.trans (hb3.mono HB2.out.size)
  have HC3 : Hid (CkAt w3 g ⟨⟨0, 0, r % 64⟩, m % 4, d % 16⟩) := HC2.out.later hb3 HC2.out.lt
  have HD3 : Hid (RkAt w3 gd ⟨⟨0, 0, r % 64⟩, m % 4, d % 16⟩) := hd3
  have HO3 : Hid (HlcMath.Ok ⟨⟨0, 0, r % 64⟩, m % 4, d % 16⟩) := newOk_ok hok
  have hgl := HC2.out.lt
  have hgne : g ≠ gd := by omega
  have hgdW : W.heap.size ≤ gd := by omega
  clear hb3 hd3 hgd HB2 HC2 hok hgl
  go_wp2
  go_loopw [15] (fun i wr => ∃ (j : Nat) (c : Ck), j ≤ n ∧ i = .int .i64 j ∧ CkAt wr g c ∧ RkAt wr gd c ∧ HlcMath.Ok c ∧ Below W.heap.size W wr) (fun i _ => n - (intOf i).toNat)
  case atStart => exact ⟨0, _, by omega, rfl, HC3.out, HD3.out, HO3.out, HB3.out⟩
  case round =>
    obtain ⟨j, c, hj, rfl, hC, hD, hO, hB⟩ := hrel
    have HC : Hid (CkAt wr g c) := hC
    have HD : Hid (RkAt wr gd c) := hD
    have HO : Hid (HlcMath.Ok c) := hO
    have HB : Hid (Below W.heap.size W wr) := hB
    clear hC hD hO hB HC3 HD3 HO3 HB3
    by_cases hjn : j < n
    · obtain ⟨b, off, x, rfl, hx, hx0, hx1⟩ := HAT.out j hjn
      have HXr : Hid (wr.rangeAt b (off + j * 5) (acL x)) := range_later hx HB.out
      have HXn : Hid ((wr.alloc (.cells #[.int .u8 0, .int .i64 0, .int .i64 0, .int .i64 0, .int .i64 0] 34)).rangeAt b (off + j * 5) (acL x)) := range_later HXr.out ((Below.refl _ _).alloc (Nat.le_refl _) _)
      have HN0 : Hid (AcAt (wr.alloc (.cells #[.int .u8 0, .int .i64 0, .int .i64 0, .int .i64 0, .int .i64 0] 34)) wr.heap.size ac0) := AcAt.new wr ac0 rfl
      have hlg : g < wr.heap.size := HC.out.lt
      have hlgd : gd < wr.heap.size := HD.out.lt
      have hlW : W.heap.size ≤ wr.heap.size := HB.out.size
      have HC1 : Hid (CkAt ((wr.alloc (.cells #[.int .u8 0, .int .i64 0, .int .i64 0, .int .i64 0, .int .i64 0] 34)).setRow wr.heap.size (acL x).toArray) g c) := CkAt.row_other (HC.out.alloc _) _ (by omega)
      have HD1 : Hid (RkAt ((wr.alloc (.cells #[.int .u8 0, .int .i64 0, .int .i64 0, .int .i64 0, .int .i64 0] 34)).setRow wr.heap.size (acL x).toArray) gd c) := RkAt.row_other (HD.out.alloc _) _ (by omega)
      have HX1 : Hid (AcAt ((wr.alloc (.cells #[.int .u8 0, .int .i64 0, .int .i64 0, .int .i64 0, .int .i64 0] 34)).setRow wr.heap.size (acL x).toArray) wr.heap.size x) := AcAt.row HN0.out
      have HB1 : Hid (Below W.heap.size W ((wr.alloc (.cells #[.int .u8 0, .int .i64 0, .int .i64 0, .int .i64 0, .int .i64 0] 34)).setRow wr.heap.size (acL x).toArray)) := below_setRow (HB.out.alloc hlW _) hlW _
      clear HC HD HB hx
      go_upto_region 15 with (first
        | refine wpList_load_mid rfl 34 (.tmp 73) rfl b (off + j * 5) rfl (acL x) _ HXr.out Try.underlying34 rfl sizeAc ?_
        | refine wpList_load_mid rfl 34 (.tmp 73) rfl b (off + j * 5) rfl (acL x) _ HXn.out Try.underlying34 rfl sizeAc ?_
        | refine wpList_store_arr rfl 34 (.tmp 16) (.tmp 74) rfl wr.heap.size 34 (acL ac0) (acL x) rfl rfl HN0.out.arr sizeAc rfl (acL_one x) ?_)
      clear HXr HXn HN0
      generalize (wr.alloc (.cells #[.int .u8 0, .int .i64 0, .int .i64 0, .int .i64 0, .int .i64 0] 34)).setRow wr.heap.size (acL x).toArray = w1 at *
      generalize wr.heap.size = gx at *
      go_wp2_with (refine wpList_load_mid rfl 34 (.tmp 16) rfl gx 0 rfl (acL x) _ (range_of_arr HX1.out.arr) Try.underlying34 rfl sizeAc ?_)
      refine Calls.mono (play_any g gd c x w1 hgne HC1.out HD1.out HO.out hx0 hx1) ?_
      rintro e w2 ⟨rfl, hc2, hd2, ht2⟩
      have HX2 : Hid (AcAt w2 gx x) := HX1.out.two ht2 (by omega) (by omega)
      have HC2 : Hid (CkAt w2 g (stepA c x)) := hc2
      have HD2 : Hid (RkAt w2 gd (stepA c x)) := hd2
      have HO2 : Hid (HlcMath.Ok (stepA c x)) := stepA_ok HO.out x
      have HB2 : Hid (Below W.heap.size W w2) := Below.two HB1.out ht2 HB1.out.size hgW hgdW
      clear hc2 hd2 ht2 HX1 HC1 HD1 HO HB1
      generalize stepA c x = c2 at *
      obtain ⟨x0, x1, x2, x3, x4⟩ := HX2.out.cells
      go_wp2_with fail
      refine Calls.mono (near_any x w2) ?_
      rintro e w3 ⟨rfl, hb3⟩
      have HC3 : Hid (CkAt w3 g c2) := HC2.out.later hb3 HC2.out.lt
      have HD3 : Hid (RkAt w3 gd c2) := HD2.out.later hb3 HD2.out.lt
      have HB3 : Hid (Below W.heap.size W w3) := HB2.out.trans (hb3.mono HB2.out.size)
      clear hb3 HC2 HD2 HB2 HX2 x0 x1 x2 x3 x4
      go_wp2_with fail
      refine Calls.mono (play_any g gd c2 (nearA x) w3 hgne HC3.out HD3.out HO2.out hx0 hx1) ?_
      rintro e w4 ⟨rfl, hc4, hd4, ht4⟩
      have HC4 : Hid (CkAt w4 g (stepA c2 (nearA x))) := hc4
      have HD4 : Hid (RkAt w4 gd (stepA c2 (nearA x))) := hd4
      have HO4 : Hid (HlcMath.Ok (stepA c2 (nearA x))) := stepA_ok HO2.out _
      have HB4 : Hid (Below W.heap.size W w4) := Below.two HB3.out ht4 HB3.out.size hgW hgdW
      clear hc4 hd4 ht4 HC3 HD3 HO2 HB3
      go_wp2
      go_roundw
      case rel => exact ⟨j + 1, _, by omega, by go_num, HC4.out, HD4.out, HO4.out, HB4.out⟩
      case measure => simp [intOf]; omega
    · have hjk : j = n := by omega
      have hdk : decide ((j : Int) < (n : Int)) = false := by simp; omega
      go_wp2
      go_ret
      exact ⟨rfl, HB.out⟩

theorem hlcPlays_walk (r m d : Int) (a : Option Addr) (xs : List Ac) (cap : Nat) (b : Bool) (W : World) (wr : (Lit.int .i64 r).wf = true) (wm : (Lit.int .i64 m).wf = true) (wd : (Lit.int .i64 d).wf = true)
    (hr : ARow W a xs) (hc : xs.length ≤ cap) (hm : cap ≤ maxLen) (hf : ∀ x ∈ xs, FitA x) :
    Calls Try.prog 3 #[.int .i64 r, .int .i64 m, .int .i64 d, .slice a xs.length cap, .bool b] W fun e w' => e = .returned (.bool true) ∧ Below W.heap.size W w' := by
  cases b
  · exact hlcPlays_false r m d a xs cap W hr hc hm hf
  · exact hlcPlays_true r m d a xs cap W hr hc hm hf
end Go.Proofs.Ytecijlgkadlmnaa

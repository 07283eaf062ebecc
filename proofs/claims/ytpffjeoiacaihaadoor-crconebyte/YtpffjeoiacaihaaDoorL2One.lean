/-
  The walk of the law CrcOneByte: what is sealed isn't opened when one byte of it, whichever, is another one.
-/
import Derived.Test.YtpffjeoiacaihaaDoorL2Known
import Derived.Test.YtpffjeoiacaihaaDoorL2Math
namespace Go.Proofs.YtpffjeoiacaihaaDoor
open Go.RowKit NumMath
set_option maxRecDepth 100000
set_option linter.unusedVariables false
set_option linter.unusedSimpArgs false

set_option maxHeartbeats 800000 in
theorem crcOneByte_walk (a : Option Addr) (zs : List Int) (cap : Nat) (ix by_ : Int) (W : World) (ht : Tab W) (hr : Row .u8 W a zs) (hc : zs.length ≤ cap) (hm : cap ≤ maxLen) (hn : a = none → cap = 0)
    (hw : ∀ n ∈ zs, (Lit.int .u8 n).wf = true) (hs : cap * 1 ≤ 140737488351232) (wix : (Lit.int .i64 ix).wf = true) (wby : (Lit.int .u8 by_).wf = true) :
    Calls Tryd.prog 7 #[.slice a zs.length cap, .int .i64 ix, .int .u8 by_] W fun e w' => e = .returned (.bool true) ∧ Below W.heap.size W w' := by
  obtain ⟨i0, hi, hz0, hz1, hz2⟩ := info_parts Tryd.info5
  have hb := u8s hw
  have hix := bounds_i64 wix
  have hby := bounds_u8 wby
  have hlen : zs.length ≤ 140737488351232 := by omega
  clear hw hs wix wby
  by_cases hb0 : by_ = 0
  · have e0 : (by_ == 0) = true := by simp [hb0]
    clear hb0
    go_enter Tryd.func7, Tryd.ntmps7
    go_wp2_with fail
    refine (known2_any _ ht).mono ?_
    rintro e w1 ⟨rfl, hB1⟩
    go_wp2
    go_ret
    exact ⟨rfl, hB1⟩
  · have e0 : (by_ == 0) = false := by simp [hb0]
    have hS := sealL_len zs
    have hSb := sealL_byte hb
    obtain ⟨L, hL⟩ : ∃ L, L = zs.length := ⟨_, rfl⟩
    have HL : Hid (L = zs.length) := hL
    have hseal : ∀ w1, Below W.heap.size W w1 → Calls Tryd.prog 20 #[.slice a L cap] w1 fun e w' => ∃ v, e = .returned v ∧ Bytes w' v (sealL zs) ∧ Below w1.heap.size w1 w' := by
      intro w1 hB
      rw [hL]
      exact crcSeal_any a zs cap w1 (ht.later hB) (hr.later hB) hb hc hm hn (by omega)
    have HSEAL : Hid _ := hseal
    rw [← hL] at hlen hS ⊢
    have HS : Hid ((sealL zs).length = L + 4) := hS
    obtain ⟨p, hp, hpx⟩ := mod_nat ix (L + 4) (by omega)
    clear hseal hL hS hc hn
    go_enter Tryd.func7, Tryd.ntmps7
    go_wp2_with fail
    refine (known2_any _ ht).mono ?_
    rintro e w1 ⟨rfl, hB1⟩
    go_wp2_with fail
    refine Calls.mono (HSEAL.out w1 hB1) ?_
    rintro e w2 ⟨v2, rfl, ⟨a2, c2, rfl, hr2, _, hc2, hm2, hn2⟩, hbel2⟩
    have hB2 := hB1.trans (hbel2.mono hB1.size)
    rw [HS.out] at hc2 ⊢
    have hnl : a2 = none → L + 4 = 0 ∧ c2 = 0 := fun h => by have := hn2 h; omega
    have HNL : Hid _ := hnl
    clear HSEAL hB1 hbel2 hn2 hnl
    go_wp2_with (at_builtin; refine wpList_append_own_any rfl _ (.tmp 15) 24 rfl w2.heap.size 5 i0 (.int .u8 0) 1 1 Tryd.underlying24 hi hz0 hz1 hz2 rfl (by decide) (.slice none 0 0) 0 [] rfl (World.ownsRow_nil _ _ _ _) a2 (L + 4) c2 ((sealL zs).map (Value.int .u8)) rfl (by rw [List.length_map, Nat.mul_one]; exact HS.out) HNL.out hr2.news (ints_oneCell _ _) (by unfold maxLen; omega) (by omega) (Nat.le_refl _) ?_; intro v3 w3 hown3 hgrow3; rw [Nat.zero_add, List.nil_append] at hown3; obtain ⟨g, c3, hv3, hg, hnc, hcm⟩ := own_some hown3 (by omega); subst hv3)
    have hB3 : Below W.heap.size W w3 := hB2.grown hgrow3 hB2.size (fun k hk => by cases hk)
    have hg2 : W.heap.size ≤ g := Nat.le_trans hB2.size hg
    have hPl := place_any ix (L + 4) w3 hix.1 hix.2 (by omega) (by omega)
    rw [hpx] at hPl
    have hcast : (((L + 4 : Nat) : Int)) = (L : Int) + 4 := by omega
    rw [hcast] at hPl
    refine Calls.mono hPl ?_
    rintro e w4 ⟨rfl, rfl⟩
    obtain ⟨y, hy⟩ : ∃ y, y = (sealL zs)[p]?.getD 0 := ⟨_, rfl⟩
    have hyb : 0 ≤ y ∧ y ≤ 255 := by rw [hy]; exact hSb _ (mem_getD _ p (by rw [HS.out]; exact hp))
    have hcl : w4.cell? ⟨g, p, none⟩ = some (.int .u8 y) := by
      rw [hown3.cellAt p (by omega), hy]
      have : p < (sealL zs).length := by rw [HS.out]; exact hp
      simp [this]
    have hfz := hown3.frozenAt p
    have hst := (hown3.stored p (.int .u8 (bits .xor .u8 y by_))).1
    rw [← List.map_set] at hst
    have hno : openB ((sealL zs).set p (bits .xor .u8 y by_)) = false := seal_one hb p (by rw [HS.out]; exact hp) (xor8_bd _ _) (by rw [← hy]; exact xor8_ne hyb hby hb0)
    have hBS := hB3.setCell (p := ⟨g, p, none⟩) hg2 (.int .u8 (bits .xor .u8 y by_))
    have hbS := bytes_set hSb p (xor8_bd y by_)
    have hlS : ((sealL zs).set p (bits .xor .u8 y by_)).length = L + 4 := by rw [List.length_set]; exact HS.out
    have hrS : Row .u8 (w4.setCell ⟨g, p, none⟩ (.int .u8 (bits .xor .u8 y by_))) (some ⟨g, 0, none⟩) ((sealL zs).set p (bits .xor .u8 y by_)) := by
      have := own_row hst (L + 4) (Nat.le_refl _)
      rwa [List.take_of_length_le (by omega)] at this
    have hOp := crcOpen_any (some ⟨g, 0, none⟩) _ c3 _ (ht.later hBS) hrS hbS (by omega) hcm (by intro h; cases h) (by omega)
    rw [hlS, hno, opened_no hno] at hOp
    have HOP : Hid _ := hOp
    clear hOp hrS hbS hlS hno hst hown3 hgrow3 hPl hy hr2 hB2 hB3
    go_wp2_with (go_at_call 21; refine Calls.mono HOP.out ?_; rintro e w5 ⟨v5, rfl, ⟨a5, c5, rfl, _⟩, hbel5⟩)
    go_ret
    exact ⟨rfl, hBS.trans (hbel5.mono hBS.size)⟩
end Go.Proofs.YtpffjeoiacaihaaDoor

/-
  Walk of newsreelseat.Changed: some bytes, one of them changed, or cut, or more: bytes again, in new memory.
-/
import Derived.Test.YtehaeepihjookaaFnPlace
namespace Go.Proofs.Ytehaeepihjookaa
open Go.RowKit NumMath
set_option maxRecDepth 100000
set_option linter.unusedVariables false
set_option linter.unusedSimpArgs false

/-- A slice of bytes that lies in memory. -/
def Bytes (w : World) (v : Value) (ys : List Int) : Prop := ∃ a c, v = .slice a ys.length c ∧ Row .u8 w a ys ∧ (∀ x ∈ ys, 0 ≤ x ∧ x ≤ 255) ∧ ys.length ≤ c ∧ c ≤ maxLen ∧ (a = none → c = 0)
theorem own_bytes {w : World} {base n : Nat} {v : Value} {xs : List Int} (h : w.ownsRow base 5 1 v n (xs.map (Value.int .u8))) (hb : ∀ x ∈ xs, 0 ≤ x ∧ x ≤ 255) : Bytes w v xs := by
  obtain ⟨a, c, hv, hr, hc, hm, hn⟩ := own_shape h
  exact ⟨a, c, hv, hr, hb, hc, hm, hn⟩
theorem xor8_byte (x y : Int) : 0 ≤ bits .xor .u8 x y ∧ bits .xor .u8 x y ≤ 255 := ⟨bits_lo_u8 _ _ _, bits_hi_u8 _ _ _⟩

set_option maxHeartbeats 1600000 in
theorem changed_any (a : Option Addr) (zs : List Int) (cap : Nat) (ix by_ how : Int) (w : World) (hr : Row .u8 w a zs) (hb : ∀ c ∈ zs, 0 ≤ c ∧ c ≤ 255) (hc : zs.length ≤ cap) (hm : cap ≤ maxLen) (hnil : a = none → cap = 0) (hs : zs.length + 1 ≤ 140737488355328)
    (h0 : -9223372036854775808 ≤ ix) (h1 : ix ≤ 9223372036854775807) (hby : 0 ≤ by_ ∧ by_ ≤ 255) (hho : 0 ≤ how ∧ how ≤ 255) :
    Calls Try.prog 18 #[.slice a zs.length cap, .int .i64 ix, .int .u8 by_, .int .u8 how] w fun e w' => ∃ v, e = .returned v ∧ ∃ ys, Bytes w' v ys ∧ ys.length ≤ zs.length + 1 ∧ Below w.heap.size w w' := by
  obtain ⟨i0, hi, hz0, hz1, hz2⟩ := info_parts Try.info5
  have hnl : a = none → zs.length = 0 ∧ cap = 0 := fun h => by have := hnil h; omega
  have HNL : Hid _ := hnl
  clear hnil hnl
  obtain ⟨L, hL⟩ : ∃ L, L = zs.length := ⟨_, rfl⟩
  rw [← hL] at hc hs HNL ⊢
  have HL : Hid (L = zs.length) := hL
  clear hL
  by_cases hz : L = 0
  · have hzs : zs = [] := List.eq_nil_of_length_eq_zero (by have := HL.out; omega)
    subst hzs
    subst hz
    go_enter Try.func18, Try.ntmps18
    go_wp2_with (first
      | (at_builtin; refine wpList_append_own_any rfl _ (.tmp 11) 34 rfl w.heap.size 5 i0 (.int .u8 0) 1 1 Try.underlying34 hi hz0 hz1 hz2 rfl (by decide) (.slice none 0 0) 0 [] rfl (World.ownsRow_nil _ _ _ _) a 0 cap [] rfl rfl HNL.out (by intro ad _ j u hj; simp at hj) (by simp) (by decide) (by decide) (Nat.le_refl _) ?_; intro v1 w1 hown1 hgrow1; rw [Nat.zero_add, List.append_nil] at hown1; obtain ⟨a1, c1, hv1, _⟩ := own_shape (xs := []) hown1; subst hv1)
      | (at_builtin; refine wpList_append_own_any rfl (.tmp 16) (.tmp 18) 34 rfl w.heap.size 5 i0 (.int .u8 0) 1 1 Try.underlying34 hi hz0 hz1 hz2 rfl (by decide) _ 0 [] rfl (hown1.alloc _) (some ⟨w1.heap.size, 0, none⟩) 1 1 ([by_].map (Value.int .u8)) rfl rfl (by intro h; cases h) (lit_row _ .u8 [by_] 5 _ rfl).news (ints_oneCell _ _) (by decide) (by decide) (by have := hgrow1.size; simp; omega) ?_; intro v2 w2 hown2 hgrow2))
    have hs1 := hgrow1.size
    have hb1 : Below w.heap.size w w1 := (Below.refl _ _).grown hgrow1 (Nat.le_refl _) (fun k hk => by cases hk)
    go_ret
    exact ⟨_, rfl, [by_], own_bytes hown2 (by simpa using hby), by simp, (hb1.alloc hs1 _).grown hgrow2 (by simp; omega) (own_ge hown1)⟩
  · have hLe : ((L : Int) == 0) = false := by simp; omega
    have ha := Int.emod_nonneg ix (show (L : Int) ≠ 0 by omega)
    have hb2 := Int.emod_lt_of_pos ix (show (0 : Int) < (L : Int) by omega)
    have ho := tmod_or ix L
    have hl : -(L : Int) ≤ ix.tmod (L : Int) ∧ ix.tmod (L : Int) ≤ (L : Int) := by omega
    obtain ⟨k, hk, hkx⟩ := mod_nat ix L (by omega)
    have hcase : (0 ≤ ix ∧ ix % (L : Int) = (k : Int)) ∨ (ix < 0 ∧ ix.tmod (L : Int) < 0 ∧ ix.tmod (L : Int) + (L : Int) = (k : Int)) ∨ (ix < 0 ∧ 0 ≤ ix.tmod (L : Int) ∧ ix.tmod (L : Int) = (k : Int)) := by omega
    have hhow : (how % 5 = 0) ∨ (how % 5 = 1) ∨ (how % 5 = 2) ∨ (3 ≤ how % 5) := by omega
    clear ho hkx ha hb2
    have HTK : Hid ((zs.take k).length = k) := by show (zs.take k).length = k; rw [List.length_take]; have := HL.out; omega
    rcases hcase with ⟨hi1, hi2⟩ | ⟨hi1, hi2, hi3⟩ | ⟨hi1, hi2, hi3⟩
    all_goals
      rcases hhow with hh | hh | hh | hh
      · go_enter Try.func18, Try.ntmps18
        go_wp2_with (at_builtin; refine wpList_append_own_any rfl _ (.tmp 11) 34 rfl w.heap.size 5 i0 (.int .u8 0) 1 1 Try.underlying34 hi hz0 hz1 hz2 rfl (by decide) (.slice none 0 0) 0 [] rfl (World.ownsRow_nil _ _ _ _) a L cap (zs.map (Value.int .u8)) rfl (by rw [List.length_map, Nat.mul_one]; exact HL.out.symm) HNL.out hr.news (ints_oneCell _ _) (by unfold maxLen; omega) (by omega) (Nat.le_refl _) ?_; intro v1 w1 hown1 hgrow1; rw [Nat.zero_add, List.nil_append] at hown1; obtain ⟨g, c1, hv1, hg, hnc, hcm⟩ := own_some hown1 (by omega); subst hv1; have hb1 : Below w.heap.size w w1 := (Below.refl _ _).grown hgrow1 (Nat.le_refl _) (fun k hk => by cases hk); have hcm' : c1 ≤ 9223372036854775807 := (by unfold maxLen at hcm; omega); have hcl : w1.cell? ⟨g, k, none⟩ = some (.int .u8 (zs[k]?.getD 0)) := (by have hkz : k < zs.length := (by have := HL.out; omega); rw [hown1.cellAt k (by omega)]; simp [hkz]); have hfz := hown1.frozenAt k; clear hgrow1)
        go_ret
        refine ⟨_, rfl, zs.take k, ⟨some ⟨g, 0, none⟩, k, ?_, own_row hown1 k (by omega), bytes_take hb k, ?_, ?_, (fun h => by cases h)⟩, ?_, hb1⟩
        · rw [HTK.out]; rfl
        · rw [HTK.out]; exact Nat.le_refl _
        · unfold maxLen; omega
        · rw [HTK.out]; omega
      · go_enter Try.func18, Try.ntmps18
        go_wp2_with (first | (at_builtin; refine wpList_append_own_any rfl _ (.tmp 11) 34 rfl w.heap.size 5 i0 (.int .u8 0) 1 1 Try.underlying34 hi hz0 hz1 hz2 rfl (by decide) (.slice none 0 0) 0 [] rfl (World.ownsRow_nil _ _ _ _) a L cap (zs.map (Value.int .u8)) rfl (by rw [List.length_map, Nat.mul_one]; exact HL.out.symm) HNL.out hr.news (ints_oneCell _ _) (by unfold maxLen; omega) (by omega) (Nat.le_refl _) ?_; intro v1 w1 hown1 hgrow1; rw [Nat.zero_add, List.nil_append] at hown1; obtain ⟨g, c1, hv1, hg, hnc, hcm⟩ := own_some hown1 (by omega); subst hv1; have hb1 : Below w.heap.size w w1 := (Below.refl _ _).grown hgrow1 (Nat.le_refl _) (fun k hk => by cases hk); have hcm' : c1 ≤ 9223372036854775807 := (by unfold maxLen at hcm; omega); have hcl : w1.cell? ⟨g, k, none⟩ = some (.int .u8 (zs[k]?.getD 0)) := (by have hkz : k < zs.length := (by have := HL.out; omega); rw [hown1.cellAt k (by omega)]; simp [hkz]); have hfz := hown1.frozenAt k; clear hgrow1) | (at_builtin; refine wpList_append_own_any rfl (.tmp 47) (.tmp 49) 34 rfl w.heap.size 5 i0 (.int .u8 0) 1 1 Try.underlying34 hi hz0 hz1 hz2 rfl (by decide) (.slice (some ⟨g, 0, none⟩) L c1) L _ rfl (hown1.alloc _) (some ⟨w1.heap.size, 0, none⟩) 1 1 ([by_].map (Value.int .u8)) rfl rfl (by intro h; cases h) (lit_row _ .u8 [by_] 5 _ rfl).news (ints_oneCell _ _) (by unfold maxLen; omega) (by omega) (by have := hb1.size; simp; omega) ?_; intro v2 w2 hown2 hgrow2))
        have hs1 := hb1.size
        rw [← List.map_append] at hown2
        go_ret
        exact ⟨_, rfl, zs ++ [by_], own_bytes hown2 (bytes_append hb (by simpa using hby)), by simp; have := HL.out; omega, (hb1.alloc hs1 _).grown hgrow2 (by simp; omega) (own_ge hown1)⟩
      · go_enter Try.func18, Try.ntmps18
        go_wp2_with (at_builtin; refine wpList_append_own_any rfl _ (.tmp 11) 34 rfl w.heap.size 5 i0 (.int .u8 0) 1 1 Try.underlying34 hi hz0 hz1 hz2 rfl (by decide) (.slice none 0 0) 0 [] rfl (World.ownsRow_nil _ _ _ _) a L cap (zs.map (Value.int .u8)) rfl (by rw [List.length_map, Nat.mul_one]; exact HL.out.symm) HNL.out hr.news (ints_oneCell _ _) (by unfold maxLen; omega) (by omega) (Nat.le_refl _) ?_; intro v1 w1 hown1 hgrow1; rw [Nat.zero_add, List.nil_append] at hown1; obtain ⟨g, c1, hv1, hg, hnc, hcm⟩ := own_some hown1 (by omega); subst hv1; have hb1 : Below w.heap.size w w1 := (Below.refl _ _).grown hgrow1 (Nat.le_refl _) (fun k hk => by cases hk); have hcm' : c1 ≤ 9223372036854775807 := (by unfold maxLen at hcm; omega); have hcl : w1.cell? ⟨g, k, none⟩ = some (.int .u8 (zs[k]?.getD 0)) := (by have hkz : k < zs.length := (by have := HL.out; omega); rw [hown1.cellAt k (by omega)]; simp [hkz]); have hfz := hown1.frozenAt k; clear hgrow1)
        have hst := (hown1.stored k (.int .u8 by_)).1
        rw [← List.map_set] at hst
        go_ret
        exact ⟨_, rfl, zs.set k by_, own_bytes hst (bytes_set hb k hby), by rw [List.length_set]; have := HL.out; omega, hb1.setCell hg _⟩
      · go_enter Try.func18, Try.ntmps18
        go_wp2_with (at_builtin; refine wpList_append_own_any rfl _ (.tmp 11) 34 rfl w.heap.size 5 i0 (.int .u8 0) 1 1 Try.underlying34 hi hz0 hz1 hz2 rfl (by decide) (.slice none 0 0) 0 [] rfl (World.ownsRow_nil _ _ _ _) a L cap (zs.map (Value.int .u8)) rfl (by rw [List.length_map, Nat.mul_one]; exact HL.out.symm) HNL.out hr.news (ints_oneCell _ _) (by unfold maxLen; omega) (by omega) (Nat.le_refl _) ?_; intro v1 w1 hown1 hgrow1; rw [Nat.zero_add, List.nil_append] at hown1; obtain ⟨g, c1, hv1, hg, hnc, hcm⟩ := own_some hown1 (by omega); subst hv1; have hb1 : Below w.heap.size w w1 := (Below.refl _ _).grown hgrow1 (Nat.le_refl _) (fun k hk => by cases hk); have hcm' : c1 ≤ 9223372036854775807 := (by unfold maxLen at hcm; omega); have hcl : w1.cell? ⟨g, k, none⟩ = some (.int .u8 (zs[k]?.getD 0)) := (by have hkz : k < zs.length := (by have := HL.out; omega); rw [hown1.cellAt k (by omega)]; simp [hkz]); have hfz := hown1.frozenAt k; clear hgrow1)
        have hst := (hown1.stored k (.int .u8 (bits .xor .u8 (zs[k]?.getD 0) by_))).1
        rw [← List.map_set] at hst
        go_ret
        exact ⟨_, rfl, zs.set k (bits .xor .u8 (zs[k]?.getD 0) by_), own_bytes hst (bytes_set hb k (xor8_byte _ _)), by rw [List.length_set]; have := HL.out; omega, hb1.setCell hg _⟩
end Go.Proofs.Ytehaeepihjookaa

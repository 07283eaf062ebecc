/-
  The walk of the law CrcBurst: what is sealed isn't opened when up to four bytes in a row, ahead of its checksum, are others.
-/
import Derived.Test.YtpffjeoiacaihaaDoorL2Lit
import Derived.Test.YtpffjeoiacaihaaDoorL2BurstM
namespace Go.Proofs.YtpffjeoiacaihaaDoor
open Go.RowKit NumMath
set_option maxRecDepth 100000
set_option linter.unusedVariables false
set_option linter.unusedSimpArgs false

set_option maxHeartbeats 1600000 in
theorem crcBurst_walk (a : Option Addr) (zs : List Int) (cap : Nat) (ix by_ : Int) (W : World) (ht : Tab W) (hr : Row .u8 W a zs) (hc : zs.length ≤ cap) (hm : cap ≤ maxLen) (hn : a = none → cap = 0)
    (hw : ∀ n ∈ zs, (Lit.int .u8 n).wf = true) (hs : cap * 1 ≤ 140737488351232) (wix : (Lit.int .i64 ix).wf = true) (wby : (Lit.int .u32 by_).wf = true) :
    Calls Tryd.prog 8 #[.slice a zs.length cap, .int .i64 ix, .int .u32 by_] W fun e w' => e = .returned (.bool true) ∧ Below W.heap.size W w' := by
  obtain ⟨i0, hi, hz0, hz1, hz2⟩ := info_parts Tryd.info5
  have hb := u8s hw
  have hix := bounds_i64 wix
  have hby := bounds_u32 wby
  have hlen : zs.length ≤ 140737488351232 := by omega
  obtain ⟨x, rfl⟩ := Int.eq_ofNat_of_zero_le hby.1
  clear hw hs wix wby
  by_cases h4 : zs.length < 4
  · clear hr hb hn
    go_enter Tryd.func8, Tryd.ntmps8
    go_wp2_with fail
    refine (known2_any _ ht).mono ?_
    rintro e w1 ⟨rfl, hB1⟩
    go_wp2
    go_ret
    exact ⟨rfl, hB1⟩
  by_cases hb0 : x = 0
  · have e0 : ((x : Int) == 0) = true := by simp [hb0]
    have h4' : 4 ≤ zs.length := by omega
    clear hb0 hr hb hn
    go_enter Tryd.func8, Tryd.ntmps8
    go_wp2_with fail
    refine (known2_any _ ht).mono ?_
    rintro e w1 ⟨rfl, hB1⟩
    go_wp2
    go_ret
    exact ⟨rfl, hB1⟩
  · have e0 : ((x : Int) == 0) = false := by simp [hb0]
    have hx32 : x < 4294967296 := by omega
    have h4' : 4 ≤ zs.length := by omega
    have hS := sealL_len zs
    have hSb := sealL_byte hb
    obtain ⟨L, hL⟩ : ∃ L, L = zs.length := ⟨_, rfl⟩
    have HL : Hid (L = zs.length) := hL
    have hseal : ∀ w1, Below W.heap.size W w1 → Calls Tryd.prog 20 #[.slice a L cap] w1 fun e w' => ∃ v, e = .returned v ∧ Bytes w' v (sealL zs) ∧ Below w1.heap.size w1 w' := by
      intro w1 hB
      rw [hL]
      exact crcSeal_any a zs cap w1 (ht.later hB) (hr.later hB) hb hc hm hn (by omega)
    have HSEAL : Hid _ := hseal
    have hok : ∀ w1, Below W.heap.size W w1 → (Part.mk a zs cap).ok w1 := fun w1 h => part_ok (hr.later h) hb hc hm
    have HOK : Hid _ := hok
    rw [← hL] at hlen hS h4' h4 hc ⊢
    have HS : Hid ((sealL zs).length = L + 4) := hS
    obtain ⟨p, hp, hpx⟩ := mod_nat ix (L - 3) (by omega)
    obtain ⟨hno, hcr⟩ := seal_burst hb p x (by omega) hx32 hb0
    rw [← hL] at hcr
    have HNO : Hid _ := hno
    have HCR : Hid _ := hcr
    clear hseal hL hS hn hno hcr hok hb0
    go_enter Tryd.func8, Tryd.ntmps8
    go_wp2_with fail
    refine (known2_any _ ht).mono ?_
    rintro e w1 ⟨rfl, hB1⟩
    go_wp2_with fail
    refine Calls.mono (HSEAL.out w1 hB1) ?_
    rintro e w2 ⟨v2, rfl, ⟨a2, c2, rfl, hr2, _, hc2, hm2, hn2⟩, hbel2⟩
    have hB2 := hB1.trans (hbel2.mono hB1.size)
    rw [HS.out] at hc2 ⊢
    have hnl : a2 = none → L + 4 = 0 ∧ c2 = 0 := fun h => by have := hn2 h; omega
    have HNL : Hid _ := hnl
    clear HSEAL hB1 hbel2 hn2 hnl
    go_wp2_with (at_builtin; refine wpList_append_own_any rfl _ (.tmp 22) 24 rfl w2.heap.size 5 i0 (.int .u8 0) 1 1 Tryd.underlying24 hi hz0 hz1 hz2 rfl (by decide) (.slice none 0 0) 0 [] rfl (World.ownsRow_nil _ _ _ _) a2 (L + 4) c2 ((sealL zs).map (Value.int .u8)) rfl (by rw [List.length_map, Nat.mul_one]; exact HS.out) HNL.out hr2.news (ints_oneCell _ _) (by unfold maxLen; omega) (by omega) (Nat.le_refl _) ?_; intro v3 w3 hown3 hgrow3; rw [Nat.zero_add, List.nil_append] at hown3; obtain ⟨g, c3, hv3, hg, hnc, hcm⟩ := own_some hown3 (by omega); subst hv3)
    have hB3 : Below W.heap.size W w3 := hB2.grown hgrow3 hB2.size (fun k hk => by cases hk)
    have hg2 : W.heap.size ≤ g := Nat.le_trans hB2.size hg
    have hPl := place_any ix (L - 3) w3 hix.1 hix.2 (by omega) (by omega)
    rw [hpx] at hPl
    have hcast : (((L - 3 : Nat)) : Int) = (L : Int) - 3 := by omega
    rw [hcast] at hPl
    have hpL : p + 4 ≤ L := by omega
    have hpLi : (p : Int) + 4 ≤ (L : Int) := by omega
    clear hcast hp
    refine Calls.mono hPl ?_
    rintro e w4 ⟨rfl, rfl⟩
    have HOWN : Hid (w4.ownsRow w2.heap.size 5 1 (.slice (some ⟨g, 0, none⟩) (L + 4) c3) (L + 4) ((sealL zs).map (Value.int .u8))) := hown3
    clear hPl hpx hown3 hgrow3 hr2 hB2 HNL
    go_wp2
    go_loopw [9] (fun i w => ∃ k : Nat, k ≤ 4 ∧ i = .int .i64 k ∧ Below W.heap.size W w ∧ w.ownsRow w2.heap.size 5 1 (.slice (some ⟨g, 0, none⟩) (L + 4) c3) (L + 4) ((bur (sealL zs) p x k).map (Value.int .u8))) (fun i w => 4 - (intOf i).toNat)
    case atStart => exact ⟨0, by omega, rfl, hB3, HOWN.out⟩
    case round =>
      obtain ⟨k, hk, rfl, hBk, hok⟩ := hrel
      by_cases hlt : k < 4
      · obtain ⟨y, hy⟩ : ∃ y, y = (bur (sealL zs) p x k)[p + k]?.getD 0 := ⟨_, rfl⟩
        have hlk := bur_len (sealL zs) p x k
        rw [HS.out] at hlk
        have hcl : ∀ w', (World.ownsRow w' w2.heap.size 5 1 (.slice (some ⟨g, 0, none⟩) (L + 4) c3) (L + 4) ((bur (sealL zs) p x k).map (Value.int .u8))) → w'.cell? ⟨g, p + k, none⟩ = some (.int .u8 y) := by
          intro w' ho
          rw [ho.cellAt (p + k) (by omega), hy]
          simp [show p + k < (bur (sealL zs) p x k).length by omega]
        have hc1 := hcl _ hok.drew
        have hfz := hok.drew.frozenAt (p + k)
        have HY : Hid (y = (bur (sealL zs) p x k)[p + k]?.getD 0) := hy
        have HOKK : Hid _ := hok
        have q1 : IntKind.i64.wrap ((p : Int) + (k : Int)) = (p : Int) + (k : Int) := IntWalk.i64_in _ ⟨by omega, by omega⟩
        have q2 : IntKind.i64.wrap (8 * (k : Int)) = 8 * (k : Int) := IntWalk.i64_in _ ⟨by omega, by omega⟩
        have q3 : 0 ≤ (p : Int) + (k : Int) := by omega
        have q4 : (p : Int) + (k : Int) < (L : Int) + 4 := by omega
        have q5 : 0 ≤ 8 * (k : Int) := by omega
        have q6 : 8 * (k : Int) ≤ 32 := by omega
        have q7 : ((p : Int) + (k : Int)).toNat = p + k := by omega
        have q8 : (8 * (k : Int)).toNat = 8 * k := by omega
        clear hcl hy hok hlk
        go_wp2
        refine wp_region_held_drew (S := fun _ => True) (by kernel_rfl) trivial (fun hS => ?_)
        refine wpAnyH_take (i := 0) (v := ?_) rfl (by kernel_rfl) (by kernel_rfl) (by kernel_rfl) (fun _ _ _ h => h) (Or.inl ⟨by rfl, ?_⟩) hS ?_
        rotate_left 1
        · intro w hSw; (try dsimp only at hSw); go_simp <;> with_reducible rfl
        simp only [List.getElem_toArray, List.getElem_cons_zero, List.getElem_cons_succ, Act.put, List.setIfInBounds_toArray, List.set_cons_zero, List.set_cons_succ]
        refine wpAnyH_take (i := 1) (v := ?_) rfl (by kernel_rfl) (by kernel_rfl) (by kernel_rfl) (fun _ _ _ h => h) (Or.inl ⟨by rfl, ?_⟩) hS ?_
        rotate_left 1
        · intro w hSw; (try dsimp only at hSw); go_simp <;> with_reducible rfl
        simp only [List.getElem_toArray, List.getElem_cons_zero, List.getElem_cons_succ, Act.put, List.setIfInBounds_toArray, List.set_cons_zero, List.set_cons_succ]
        refine wpAnyH_take (i := 2) (v := ?_) rfl (by kernel_rfl) (by kernel_rfl) (by kernel_rfl) (fun _ _ _ h => h) (Or.inl ⟨by rfl, ?_⟩) hS ?_
        rotate_left 1
        · intro w hSw; (try dsimp only at hSw); go_simp <;> with_reducible rfl
        simp only [List.getElem_toArray, List.getElem_cons_zero, List.getElem_cons_succ, Act.put, List.setIfInBounds_toArray, List.set_cons_zero, List.set_cons_succ]
        refine wpAnyH_take (i := 3) (v := ?_) rfl (by kernel_rfl) (by kernel_rfl) (by kernel_rfl) (fun _ _ _ h => h) (Or.inl ⟨by rfl, ?_⟩) hS ?_
        rotate_left 1
        · intro w hSw; (try dsimp only at hSw); go_simp <;> with_reducible rfl
        simp only [List.getElem_toArray, List.getElem_cons_zero, List.getElem_cons_succ, Act.put, List.setIfInBounds_toArray, List.set_cons_zero, List.set_cons_succ]
        refine wpAnyH_take (i := 4) (v := ?_) rfl (by kernel_rfl) (by kernel_rfl) (by kernel_rfl) (fun _ _ _ h => h) (Or.inl ⟨by rfl, ?_⟩) hS ?_
        rotate_left 1
        · intro w hSw; (try dsimp only at hSw); go_simp <;> with_reducible rfl
        simp only [List.getElem_toArray, List.getElem_cons_zero, List.getElem_cons_succ, Act.put, List.setIfInBounds_toArray, List.set_cons_zero, List.set_cons_succ]
        refine wpAnyH_take (i := 6) (v := ?_) rfl (by kernel_rfl) (by kernel_rfl) (by kernel_rfl) (fun _ _ _ h => h) (Or.inl ⟨by rfl, ?_⟩) hS ?_
        rotate_left 1
        · intro w hSw; (try dsimp only at hSw); go_simp <;> with_reducible rfl
        simp only [List.getElem_toArray, List.getElem_cons_zero, List.getElem_cons_succ, Act.put, List.setIfInBounds_toArray, List.set_cons_zero, List.set_cons_succ]
        refine wpAnyH_take (i := 7) (v := ?_) rfl (by kernel_rfl) (by kernel_rfl) (by kernel_rfl) (fun _ _ _ h => h) (Or.inl ⟨by rfl, ?_⟩) hS ?_
        rotate_left 1
        · intro w hSw; (try dsimp only at hSw); go_simp <;> with_reducible rfl
        simp only [List.getElem_toArray, List.getElem_cons_zero, List.getElem_cons_succ, Act.put, List.setIfInBounds_toArray, List.set_cons_zero, List.set_cons_succ]
        refine wpAnyH_take (i := 8) (v := ?_) rfl (by kernel_rfl) (by kernel_rfl) (by kernel_rfl) (fun _ _ _ h => h) (Or.inl ⟨by rfl, ?_⟩) hS ?_
        rotate_left 1
        · intro w hSw; (try dsimp only at hSw); go_simp <;> with_reducible rfl
        simp only [List.getElem_toArray, List.getElem_cons_zero, List.getElem_cons_succ, Act.put, List.setIfInBounds_toArray, List.set_cons_zero, List.set_cons_succ]
        refine wpAnyH_take (i := 9) (v := ?_) rfl (by kernel_rfl) (by kernel_rfl) (by kernel_rfl) (fun _ _ _ h => h) (Or.inl ⟨by rfl, ?_⟩) hS ?_
        rotate_left 1
        · intro w hSw; (try dsimp only at hSw); go_simp <;> with_reducible rfl
        simp only [List.getElem_toArray, List.getElem_cons_zero, List.getElem_cons_succ, Act.put, List.setIfInBounds_toArray, List.set_cons_zero, List.set_cons_succ]
        refine wpAnyH_take (i := 10) (v := ?_) rfl (by kernel_rfl) (by kernel_rfl) (by kernel_rfl) (fun _ _ _ h => h) (Or.inl ⟨by rfl, ?_⟩) hS ?_
        rotate_left 1
        · intro w hSw; (try dsimp only at hSw); go_simp <;> with_reducible rfl
        simp only [List.getElem_toArray, List.getElem_cons_zero, List.getElem_cons_succ, Act.put, List.setIfInBounds_toArray, List.set_cons_zero, List.set_cons_succ]
        refine wpAnyH_ready (rs := [5]) (by kernel_rfl) (by simp) ?_
        refine AllReadyH.cons rfl (fun K hK => ?_) AllReadyH.nil
        go_simp
        refine hK.out _ _ trivial (fun hS => ?_)
        clear hK K
        try simp only [List.getElem_toArray, List.getElem_cons_zero, List.getElem_cons_succ, Act.put, List.setIfInBounds_toArray, List.set_cons_zero, List.set_cons_succ]
        refine wpAnyH_take (i := 11) (v := ?_) rfl (by kernel_rfl) (by kernel_rfl) (by kernel_rfl) (fun _ _ _ h => h) (Or.inl ⟨by rfl, ?_⟩) hS ?_
        rotate_left 1
        · intro w hSw; (try dsimp only at hSw); go_simp <;> with_reducible rfl
        simp only [List.getElem_toArray, List.getElem_cons_zero, List.getElem_cons_succ, Act.put, List.setIfInBounds_toArray, List.set_cons_zero, List.set_cons_succ]
        refine wpAnyH_take (i := 12) (v := ?_) rfl (by kernel_rfl) (by kernel_rfl) (by kernel_rfl) (fun _ _ _ h => h) (Or.inl ⟨by rfl, ?_⟩) hS ?_
        rotate_left 1
        · intro w hSw; (try dsimp only at hSw); go_simp <;> with_reducible rfl
        simp only [List.getElem_toArray, List.getElem_cons_zero, List.getElem_cons_succ, Act.put, List.setIfInBounds_toArray, List.set_cons_zero, List.set_cons_succ]
        refine wpAnyH_ready (rs := [13]) (by kernel_rfl) (by simp) ?_
        refine AllReadyH.cons rfl (fun K hK => ?_) AllReadyH.nil
        go_simp
        refine hK.out _ _ trivial (fun hS => ?_)
        clear hK K
        try simp only [List.getElem_toArray, List.getElem_cons_zero, List.getElem_cons_succ, Act.put, List.setIfInBounds_toArray, List.set_cons_zero, List.set_cons_succ]
        refine wpAnyH_done (by kernel_rfl) ?_ _
        go_wp2
        go_roundw
        case rel =>
          refine ⟨k + 1, by omega, by go_num, ?_, ?_⟩
          · exact (hBk.setCell hg2 _).drew
          · refine World.ownsRow.drew ?_
            have hst := (World.ownsRow.stored HOKK.out (p + k) (.int .u8 (bits .xor .u8 y ((x : Int) / 2 ^ (8 * k) % 256)))).1
            rw [← List.map_set, HY.out] at hst
            rw [HY.out]
            show World.ownsRow _ _ _ _ _ _ (((bur (sealL zs) p x k).set (p + k) (bits .xor .u8 ((bur (sealL zs) p x k)[p + k]?.getD 0) ((x / 2 ^ (8 * k) % 256 : Nat) : Int))).map (Value.int .u8))
            rw [show (((x / 2 ^ (8 * k) % 256 : Nat)) : Int) = (x : Int) / 2 ^ (8 * k) % 256 by simp]
            exact hst
        case measure => simp [intOf]; omega
      · have hk4 : k = 4 := by omega
        subst hk4
        have hl4 := bur_len (sealL zs) p x 4
        rw [HS.out] at hl4
        have hb4 := bur_byte hSb p x 4
        have hr4 : Row .u8 wr (some ⟨g, 0, none⟩) (bur (sealL zs) p x 4) := by
          have := own_row hok (L + 4) (Nat.le_refl _)
          rwa [List.take_of_length_le (by omega)] at this
        have hOp := crcOpen_any (some ⟨g, 0, none⟩) _ c3 wr (ht.later hBk) hr4 hb4 (by omega) hcm (by intro h; cases h) (by omega)
        rw [hl4, HNO.out, opened_no HNO.out] at hOp
        have HOP : Hid _ := hOp
        have HR4 : Hid _ := hr4
        have HB4 : Hid _ := hb4
        have htl : ((bur (sealL zs) p x 4).take L).length = L := by rw [List.length_take]; omega
        have HTL : Hid _ := htl
        have b1 : (L : Int) ≤ (c3 : Int) := by omega
        have b2 : (L : Int) ≤ (L : Int) + 4 := by omega
        have hc3 : c3 ≤ 9223372036854775807 := by unfold maxLen at hcm; omega
        clear hOp hok hr4 hb4 hl4 htl
        go_wp2_with fail
        refine Calls.mono HOP.out ?_
        rintro e w5 ⟨v5, rfl, ⟨a5, c5, rfl, _⟩, hbel5⟩
        have hB5 := hBk.trans (hbel5.mono hBk.size)
        have hr5 : Row .u8 w5 (some ⟨g, 0, none⟩) ((bur (sealL zs) p x 4).take L) := Row.take (Row.later HR4.out hbel5) L
        have HR5 : Hid _ := hr5
        clear HOP hbel5 hBk hr5
        go_wp2_with fail
        obtain ⟨X, hX⟩ : ∃ X, X = crcOf ((bur (sealL zs) p x 4).take L) := ⟨_, rfl⟩
        obtain ⟨Y, hY⟩ : ∃ Y, Y = crcOf zs := ⟨_, rfl⟩
        have hne : ((X : Int) != (Y : Int)) = true := by
          have h1 : X ≠ Y := by rw [hX, hY]; exact HCR.out
          have h2 : (X : Int) ≠ (Y : Int) := by omega
          simp [h2]
        have HS5 := sum_lit w5 (ht.later hB5) [⟨some ⟨g, 0, none⟩, (bur (sealL zs) p x 4).take L, c3⟩] (by intro p hp; simp only [List.mem_singleton] at hp; subst hp; exact part_ok HR5.out (bytes_take HB4.out L) (by rw [HTL.out]; omega) hcm) _ 1 rfl rfl (by decide) #[.slice (some ⟨g, 0, none⟩) L c3] (by simp only [List.map_cons, List.map_nil, Part.val]; rw [HTL.out])
        rw [allB_1] at HS5
        dsimp only at HS5
        rw [← hX] at HS5
        refine Calls.mono HS5 ?_
        rintro e w6 ⟨rfl, hbel6⟩
        have hB6 := hB5.trans (hbel6.mono hB5.size)
        have HY2 : Hid (Y = crcOf zs) := hY
        clear HS5 hbel6 hB5 hX hY
        go_wp2_with fail
        have HS6 := sum_lit w6 (ht.later hB6) [⟨a, zs, cap⟩] (by intro p hp; simp only [List.mem_singleton] at hp; subst hp; exact HOK.out w6 hB6) _ 1 rfl rfl (by decide) #[.slice a L cap] (by simp only [List.map_cons, List.map_nil, Part.val]; rw [← HL.out])
        rw [allB_1] at HS6
        dsimp only at HS6
        rw [← HY2.out] at HS6
        refine Calls.mono HS6 ?_
        rintro e w7 ⟨rfl, hbel7⟩
        have hB7 := hB6.trans (hbel7.mono hB6.size)
        clear HS6 hbel7 hB6
        go_wp2
        go_ret
        exact ⟨rfl, hB7⟩
end Go.Proofs.YtpffjeoiacaihaaDoor

/-
  The walk of the law CrcOpens: which bytes are opened, and to what, and that what was sealed always is.
-/
import Derived.Test.YtpffjeoiacaihaaDoorL2Lit
namespace Go.Proofs.YtpffjeoiacaihaaDoor
open Go.RowKit NumMath
set_option maxRecDepth 100000
set_option linter.unusedVariables false
set_option linter.unusedSimpArgs false

set_option maxHeartbeats 1600000 in
theorem crcOpens_walk (a : Option Addr) (zs : List Int) (cap : Nat) (ix by_ how : Int) (W : World) (ht : Tab W) (hr : Row .u8 W a zs) (hc : zs.length ≤ cap) (hm : cap ≤ maxLen) (hn : a = none → cap = 0)
    (hw : ∀ n ∈ zs, (Lit.int .u8 n).wf = true) (hs : cap * 1 ≤ 140737488351232) (wix : (Lit.int .i64 ix).wf = true) (wby : (Lit.int .u8 by_).wf = true) (who : (Lit.int .u8 how).wf = true) :
    Calls Tryd.prog 6 #[.slice a zs.length cap, .int .i64 ix, .int .u8 by_, .int .u8 how] W fun e w' => e = .returned (.bool true) ∧ Below W.heap.size W w' := by
  have hb := u8s hw
  have hix := bounds_i64 wix
  have hby := bounds_u8 wby
  have hho := bounds_u8 who
  have hlen : zs.length ≤ 140737488351232 := by omega
  clear hw hs wix wby who
  have hSl := sealL_len zs
  have hSb := sealL_byte hb
  obtain ⟨hsoB, hsoO⟩ := seal_open zs hb
  obtain ⟨L, hL⟩ : ∃ L, L = zs.length := ⟨_, rfl⟩
  have HL : Hid (L = zs.length) := hL
  have HSL : Hid ((sealL zs).length = zs.length + 4) := hSl
  have HSB : Hid _ := hSb
  have HBB : Hid _ := hb
  have hseal : ∀ w1, Below W.heap.size W w1 → Calls Tryd.prog 20 #[.slice a zs.length cap] w1 fun e w' => ∃ v, e = .returned v ∧ Bytes w' v (sealL zs) ∧ Below w1.heap.size w1 w' :=
    fun w1 hB => crcSeal_any a zs cap w1 (ht.later hB) (hr.later hB) hb hc hm hn (by omega)
  have hrseal : ∀ w1, Below W.heap.size W w1 → Calls Tryd.prog 22 #[.slice a zs.length cap] w1 fun e w' => ∃ v, e = .returned v ∧ (World.ownsRow w' w1.heap.size 5 1 v (zs.length + 4) ((sealL zs).map (Value.int .u8))) ∧ Below w1.heap.size w1 w' :=
    fun w1 hB => refSeal_any a zs cap w1 (hr.later hB) hb hc hm hn (by omega)
  have HSEAL : Hid _ := hseal
  have HRSEAL : Hid _ := hrseal
  have hstr : ∀ w1, Below W.heap.size W w1 → (convert 24 9 (.slice a zs.length cap)).run Tryd.prog w1 = .ok (.string (strOfNums zs)) w1 := fun w1 hB => row_string (hr.later hB)
  have HSTR : Hid _ := hstr
  have hok : ∀ w1, Below W.heap.size W w1 → (Part.mk a zs cap).ok w1 := fun w1 h => part_ok (hr.later h) hb hc hm
  have HOK : Hid _ := hok
  have HSO : Hid (openB (sealL zs) = true) := hsoB
  have HSP : Hid (opened (sealL zs) = zs) := hsoO
  have HN : Hid _ := hn
  obtain ⟨sS, hsS⟩ : ∃ s, s = strOfNums (sealL zs) := ⟨_, rfl⟩
  obtain ⟨sZ, hsZ⟩ : ∃ s, s = strOfNums zs := ⟨_, rfl⟩
  rw [← hsZ] at HSTR
  have HSS : Hid (sS = strOfNums (sealL zs)) := hsS
  have HSZ : Hid (sZ = strOfNums zs) := hsZ
  rw [← hL] at HSEAL HRSEAL HSTR HSL hlen hc ⊢
  clear hseal hrseal hstr hok hsS hsZ hSl hSb hsoB hsoO hL hr hb hn
  go_enter Tryd.func6, Tryd.ntmps6
  go_wp2_with fail
  refine (known2_any _ ht).mono ?_
  rintro e w1 ⟨rfl, hB1⟩
  go_wp2_with fail
  refine Calls.mono (HSEAL.out w1 hB1) ?_
  rintro e w2 ⟨v2, rfl, ⟨a2, c2, rfl, hr2, _, hc2, hm2, hn2⟩, hbel2⟩
  have hB2 := hB1.trans (hbel2.mono hB1.size)
  have hOp := crcOpen_any a2 (sealL zs) c2 w2 (ht.later hB2) hr2 HSB.out hc2 hm2 hn2 (by rw [HSL.out]; omega)
  rw [HSO.out, HSP.out, HSL.out] at hOp
  rw [HSL.out] at hc2 ⊢
  have HOP : Hid _ := hOp
  clear hOp hbel2 HSEAL hB1
  go_wp2_with fail
  refine Calls.mono HOP.out ?_
  rintro e w3 ⟨v3, rfl, ⟨a3, c3, rfl, hr3, _, hc3, hm3, hn3⟩, hbel3⟩
  have hB3 := hB2.trans (hbel3.mono hB2.size)
  have hr23 := hr2.later hbel3
  have hcv : ∀ w', Below w3.heap.size w3 w' → (convert 24 9 (.slice a2 (L + 4) c2)).run Tryd.prog w' = .ok (.string sS) w' ∧ (convert 24 9 (.slice a3 L c3)).run Tryd.prog w' = .ok (.string sZ) w' ∧ (convert 24 9 (.slice a L cap)).run Tryd.prog w' = .ok (.string sZ) w' := by
    intro w' hB
    have e1 := row_string (cap := c2) (hr23.later hB)
    have e2 := row_string (cap := c3) (hr3.later hB)
    rw [HSL.out, ← HSS.out] at e1
    rw [← HL.out, ← HSZ.out] at e2
    exact ⟨e1, e2, HSTR.out w' (hB3.trans (hB.mono hB3.size))⟩
  rw [← HL.out] at hc3 ⊢
  have hs0 := hcv w3.drew (Below.refl _ _).drew
  have HCV : Hid _ := hcv
  have HR23 : Hid _ := hr23
  have HN2 : Hid _ := hn2
  clear hcv HOP hbel3 hr2 hr3 hr23 hB2 hn2 hn3
  go_wp2
  refine wp_region_held_drew (S := fun w => (convert 24 9 (.slice a2 (L + 4) c2)).run Tryd.prog w = .ok (.string sS) w ∧ (convert 24 9 (.slice a3 L c3)).run Tryd.prog w = .ok (.string sZ) w ∧ (convert 24 9 (.slice a L cap)).run Tryd.prog w = .ok (.string sZ) w) (by kernel_rfl) hs0 (fun hS => ?_)
  refine wpAnyH_take (i := 0) (v := ?_) rfl (by kernel_rfl) (by kernel_rfl) (by kernel_rfl) (fun _ _ _ h => h) (Or.inl ⟨by rfl, ?_⟩) hS ?_
  rotate_left 1
  · intro w hSw; (try dsimp only at hSw); go_simp <;> with_reducible rfl
  simp only [List.getElem_toArray, List.getElem_cons_zero, List.getElem_cons_succ, Act.put, List.setIfInBounds_toArray, List.set_cons_zero, List.set_cons_succ]
  refine wpAnyH_take (i := 1) (v := ?_) rfl (by kernel_rfl) (by kernel_rfl) (by kernel_rfl) (fun _ _ _ h => h) (Or.inl ⟨by rfl, ?_⟩) hS ?_
  rotate_left 1
  · intro w hSw; (try dsimp only at hSw); go_simp <;> with_reducible rfl
  simp only [List.getElem_toArray, List.getElem_cons_zero, List.getElem_cons_succ, Act.put, List.setIfInBounds_toArray, List.set_cons_zero, List.set_cons_succ]
  refine wpAnyH_take (i := 2) (v := ?_) rfl (by kernel_rfl) (by kernel_rfl) (by kernel_rfl) (fun _ _ _ h => h) (Or.inl ⟨by rfl, ?_⟩) hS ?_
  rotate_left 1
  · intro w hSw; (try dsimp only at hSw); go_simp <;> with_reducible rfl
  simp only [List.getElem_toArray, List.getElem_cons_zero, List.getElem_cons_succ, Act.put, List.setIfInBounds_toArray, List.set_cons_zero, List.set_cons_succ]
  refine wpAnyH_ready (rs := [3]) (by kernel_rfl) (by simp) ?_
  refine AllReadyH.cons rfl (fun K hK => ?_) AllReadyH.nil
  go_simp
  refine Calls.mono (HRSEAL.out w3.drew hB3.drew) ?_
  rintro e w4 ⟨v4, rfl, hown4, hb4⟩
  have hb4w : Below w3.heap.size w3 w4 := (Below.refl _ _).drew.trans hb4
  refine hK.out _ _ (HCV.out w4 hb4w) (fun hS0 => ?_)
  have hs4 : (convert 24 9 v4).run Tryd.prog w4 = .ok (.string sS) w4 := by
    have := own_string hown4
    rwa [← HSS.out] at this
  obtain ⟨p1, p2, p3⟩ := hS0
  clear hK K hs0 hb4 hS
  try simp only [List.getElem_toArray, List.getElem_cons_zero, List.getElem_cons_succ, Act.put, List.setIfInBounds_toArray, List.set_cons_zero, List.set_cons_succ]
  refine wpAnyH_weaken (S2 := fun w => w = w4) (fun w h => by rw [h]; exact ⟨p1, p2, p3⟩) _ _ _ _ ?_
  have hS : w4 = w4 := rfl
  refine wpAnyH_take (i := 4) (v := ?_) rfl (by kernel_rfl) (by kernel_rfl) (by kernel_rfl) (fun _ _ _ h => h) (Or.inl ⟨by rfl, ?_⟩) hS ?_
  rotate_left 1
  · intro w hSw; (try dsimp only at hSw); go_simp <;> with_reducible rfl
  simp only [List.getElem_toArray, List.getElem_cons_zero, List.getElem_cons_succ, Act.put, List.setIfInBounds_toArray, List.set_cons_zero, List.set_cons_succ]
  refine wpAnyH_take (i := 5) (v := ?_) rfl (by kernel_rfl) (by kernel_rfl) (by kernel_rfl) (fun _ _ _ h => h) (Or.inl ⟨by rfl, ?_⟩) hS ?_
  rotate_left 1
  · intro w hSw; (try dsimp only at hSw); go_simp <;> with_reducible rfl
  simp only [List.getElem_toArray, List.getElem_cons_zero, List.getElem_cons_succ, Act.put, List.setIfInBounds_toArray, List.set_cons_zero, List.set_cons_succ]
  refine wpAnyH_take (i := 6) (v := ?_) rfl (by kernel_rfl) (by kernel_rfl) (by kernel_rfl) (fun _ _ _ h => h) (Or.inl ⟨by rfl, ?_⟩) hS ?_
  rotate_left 1
  · intro w hSw; (try dsimp only at hSw); go_simp <;> with_reducible rfl
  simp only [List.getElem_toArray, List.getElem_cons_zero, List.getElem_cons_succ, Act.put, List.setIfInBounds_toArray, List.set_cons_zero, List.set_cons_succ]
  refine wpAnyH_take (i := 7) (v := ?_) rfl (by kernel_rfl) (by kernel_rfl) (by kernel_rfl) (fun _ _ _ h => h) (Or.inl ⟨by rfl, ?_⟩) hS ?_
  rotate_left 1
  · intro w hSw; (try dsimp only at hSw); go_simp <;> with_reducible rfl
  simp only [List.getElem_toArray, List.getElem_cons_zero, List.getElem_cons_succ, Act.put, List.setIfInBounds_toArray, List.set_cons_zero, List.set_cons_succ]
  refine wpAnyH_take (i := 8) (v := ?_) rfl (by kernel_rfl) (by kernel_rfl) (by kernel_rfl) (fun _ _ _ h => h) (Or.inl ⟨by rfl, ?_⟩) hS ?_
  rotate_left 1
  · intro w hSw; (try dsimp only at hSw); go_simp <;> with_reducible rfl
  simp only [List.getElem_toArray, List.getElem_cons_zero, List.getElem_cons_succ, Act.put, List.setIfInBounds_toArray, List.set_cons_zero, List.set_cons_succ]
  refine wpAnyH_take (i := 9) (v := ?_) rfl (by kernel_rfl) (by kernel_rfl) (by kernel_rfl) (fun _ _ _ h => h) (Or.inl ⟨by rfl, ?_⟩) hS ?_
  rotate_left 1
  · intro w hSw; (try dsimp only at hSw); go_simp <;> with_reducible rfl
  simp only [List.getElem_toArray, List.getElem_cons_zero, List.getElem_cons_succ, Act.put, List.setIfInBounds_toArray, List.set_cons_zero, List.set_cons_succ]
  refine wpAnyH_take (i := 10) (v := ?_) rfl (by kernel_rfl) (by kernel_rfl) (by kernel_rfl) (fun _ _ _ h => h) (Or.inl ⟨by rfl, ?_⟩) hS ?_
  rotate_left 1
  · intro w hSw; (try dsimp only at hSw); go_simp <;> with_reducible rfl
  simp only [List.getElem_toArray, List.getElem_cons_zero, List.getElem_cons_succ, Act.put, List.setIfInBounds_toArray, List.set_cons_zero, List.set_cons_succ]
  refine wpAnyH_take (i := 11) (v := ?_) rfl (by kernel_rfl) (by kernel_rfl) (by kernel_rfl) (fun _ _ _ h => h) (Or.inl ⟨by rfl, ?_⟩) hS ?_
  rotate_left 1
  · intro w hSw; (try dsimp only at hSw); go_simp <;> with_reducible rfl
  simp only [List.getElem_toArray, List.getElem_cons_zero, List.getElem_cons_succ, Act.put, List.setIfInBounds_toArray, List.set_cons_zero, List.set_cons_succ]
  refine wpAnyH_take (i := 12) (v := ?_) rfl (by kernel_rfl) (by kernel_rfl) (by kernel_rfl) (fun _ _ _ h => h) (Or.inl ⟨by rfl, ?_⟩) hS ?_
  rotate_left 1
  · intro w hSw; (try dsimp only at hSw); go_simp <;> with_reducible rfl
  simp only [List.getElem_toArray, List.getElem_cons_zero, List.getElem_cons_succ, Act.put, List.setIfInBounds_toArray, List.set_cons_zero, List.set_cons_succ]
  refine wpAnyH_take (i := 13) (v := ?_) rfl (by kernel_rfl) (by kernel_rfl) (by kernel_rfl) (fun _ _ _ h => h) (Or.inl ⟨by rfl, ?_⟩) hS ?_
  rotate_left 1
  · intro w hSw; (try dsimp only at hSw); go_simp <;> with_reducible rfl
  simp only [List.getElem_toArray, List.getElem_cons_zero, List.getElem_cons_succ, Act.put, List.setIfInBounds_toArray, List.set_cons_zero, List.set_cons_succ]
  refine wpAnyH_take (i := 14) (v := ?_) rfl (by kernel_rfl) (by kernel_rfl) (by kernel_rfl) (fun _ _ _ h => h) (Or.inl ⟨by rfl, ?_⟩) hS ?_
  rotate_left 1
  · intro w hSw; (try dsimp only at hSw); go_simp <;> with_reducible rfl
  simp only [List.getElem_toArray, List.getElem_cons_zero, List.getElem_cons_succ, Act.put, List.setIfInBounds_toArray, List.set_cons_zero, List.set_cons_succ]
  refine wpAnyH_take (i := 15) (v := ?_) rfl (by kernel_rfl) (by kernel_rfl) (by kernel_rfl) (fun _ _ _ h => h) (Or.inl ⟨by rfl, ?_⟩) hS ?_
  rotate_left 1
  · intro w hSw; (try dsimp only at hSw); go_simp <;> with_reducible rfl
  simp only [List.getElem_toArray, List.getElem_cons_zero, List.getElem_cons_succ, Act.put, List.setIfInBounds_toArray, List.set_cons_zero, List.set_cons_succ]
  refine wpAnyH_take (i := 16) (v := ?_) rfl (by kernel_rfl) (by kernel_rfl) (by kernel_rfl) (fun _ _ _ h => h) (Or.inl ⟨by rfl, ?_⟩) hS ?_
  rotate_left 1
  · intro w hSw; (try dsimp only at hSw); go_simp <;> with_reducible rfl
  simp only [List.getElem_toArray, List.getElem_cons_zero, List.getElem_cons_succ, Act.put, List.setIfInBounds_toArray, List.set_cons_zero, List.set_cons_succ]
  refine wpAnyH_done (by kernel_rfl) ?_ _
  have hB4 : Below W.heap.size W w4 := hB3.trans (hb4w.mono hB3.size)
  have hr24 : Row .u8 w4 a2 (sealL zs) := Row.later HR23.out hb4w
  clear hS p1 p2 p3 hs4 hown4 HCV
  go_wp2_with fail
  have hCh := changed_any a2 (sealL zs) c2 ix by_ how w4 hr24 HSB.out (by rw [HSL.out]; exact hc2) hm2 HN2.out (by rw [HSL.out]; omega) hix.1 hix.2 hby hho
  rw [HSL.out] at hCh
  refine Calls.mono hCh ?_
  rintro e w5 ⟨v5, rfl, ys, ⟨a5, c5, rfl, hr5, hb5, hc5, hm5, hn5⟩, hyl, hbel5⟩
  have hB5 := hB4.trans (hbel5.mono hB4.size)
  clear hCh hbel5 hB4 hr24 HSTR HRSEAL hB3 hb4w HR23 HN2
  obtain ⟨ps, hps⟩ : ∃ ps : List Part, ps = [⟨a, zs, cap⟩, ⟨a5, ys, c5⟩] := ⟨_, rfl⟩
  have hpar : Parts (w5.alloc (.cells #[.slice a L cap, .slice a5 ys.length c5] 24)) (some ⟨w5.heap.size, 0, none⟩) ps := by
    have := lit_parts w5 ps 24 w5.heap.size rfl (by
      rw [hps]
      intro p hp
      simp only [List.mem_cons, List.not_mem_nil, or_false] at hp
      rcases hp with rfl | rfl
      · exact HOK.out w5 hB5
      · exact part_ok hr5 hb5 hc5 hm5)
    rw [hps] at this ⊢
    simp only [List.map_cons, List.map_nil, Part.val] at this
    rw [HL.out]
    exact this
  have hall : ∀ j, j < 2 → ps[j]?.getD noPart ∈ ps ∧ ((ps[j]?.getD noPart).a = none → (ps[j]?.getD noPart).cap = 0) ∧ (ps[j]?.getD noPart).zs.length ≤ 140737488355328 := by
    intro j hj
    have : j = 0 ∨ j = 1 := by omega
    have hl := HL.out
    rw [hps]
    rcases this with rfl | rfl
    · exact ⟨by simp, fun h => HN.out h, by show zs.length ≤ _; omega⟩
    · exact ⟨by simp, fun h => hn5 h, by show ys.length ≤ _; omega⟩
  have hpl : ps.length = 2 := by rw [hps]; rfl
  have HPAR : Hid _ := hpar
  have HALL : Hid _ := hall
  have HPL : Hid _ := hpl
  have hB5a := hB5.alloc hB5.size (.cells #[.slice a L cap, .slice a5 ys.length c5] 24)
  clear hpar hall hps hpl hr5 hb5 hc5 hm5 hn5 hyl HSB HBB HOK HN HSO HSP hix hby hho hc hc2 hm hm2 hc3 hm3 hlen
  go_wp2
  go_loopw [50] (fun i w => ∃ k : Nat, k ≤ 2 ∧ i = .int .i64 k ∧ Below W.heap.size W w ∧ Parts w (some ⟨w5.heap.size, 0, none⟩) ps) (fun i w => 2 - (intOf i).toNat)
  case atStart => exact ⟨0, by omega, rfl, hB5a, HPAR.out⟩
  case round =>
    obtain ⟨k, hk, rfl, hBk, hpk⟩ := hrel
    by_cases hlt : k < 2
    · obtain ⟨hmem, hnil, hlen⟩ := HALL.out k hlt
      have hcl : wr.cell? ⟨w5.heap.size, k, none⟩ = some (ps[k]?.getD noPart).val := by
        have hl := HPL.out
        rcases hpk.1 with h | ⟨b, off, hab, hcell⟩
        · rw [h] at hl; simp at hl
        · simp only [Option.some.injEq, Addr.mk.injEq, and_true] at hab
          obtain ⟨rfl, rfl⟩ := hab
          have := hcell k (by omega)
          rwa [Nat.zero_add] at this
      have hpok := hpk.2 _ hmem
      obtain ⟨p, hp⟩ : ∃ p, p = ps[k]?.getD noPart := ⟨_, rfl⟩
      rw [← hp] at hnil hlen hcl hpok
      unfold Part.val at hcl
      have hO := crcOpen_any p.a p.zs p.cap wr (ht.later hBk) hpok.1 hpok.2.1 hpok.2.2.1 hpok.2.2.2 hnil hlen
      have hR : ∀ w', Below wr.heap.size wr w' → _ := fun w' h => refOpen_any p.a p.zs p.cap w' (hpok.1.later h) hpok.2.1 hpok.2.2.1 hpok.2.2.2 hnil hlen
      obtain ⟨B, hB⟩ : ∃ B, B = openB p.zs := ⟨_, rfl⟩
      obtain ⟨O, hO2⟩ : ∃ B, B = opened p.zs := ⟨_, rfl⟩
      rw [← hB, ← hO2] at hO
      have HO : Hid _ := hO
      have HR : Hid (∀ w', Below wr.heap.size wr w' → Calls Tryd.prog 24 #[.slice p.a p.zs.length p.cap] w' fun e w'' => ∃ v, e = .returned (.tuple #[v, .bool B]) ∧ w''.ownsRow w'.heap.size 5 1 v O.length (O.map (Value.int .u8)) ∧ Below w'.heap.size w' w'') := by
        intro w' h
        rw [hB, hO2]
        exact hR w' h
      have HPK : Hid _ := hpk
      clear hO hR hB hO2 hp hmem hnil hlen hpok hpk
      go_wp2_with fail
      refine Calls.mono HO.out ?_
      rintro e w6 ⟨v6, rfl, ⟨a6, c6, rfl, hr6, _, _, _, _⟩, hbel6⟩
      have hB6 := hBk.trans (hbel6.mono hBk.size)
      go_wp2_with fail
      refine Calls.mono (HR.out w6 hbel6) ?_
      rintro e w7 ⟨v7, rfl, hown7, hbel7⟩
      have hB7 := hB6.trans (hbel7.mono hB6.size)
      have s1 := row_string (cap := c6) (hr6.later hbel7)
      have s2 := own_string hown7
      obtain ⟨sO, hsO⟩ : ∃ s, s = strOfNums O := ⟨_, rfl⟩
      rw [← hsO] at s1 s2
      have hp7 : Parts w7 (some ⟨w5.heap.size, 0, none⟩) ps := (Parts.later HPK.out hbel6).later hbel7
      have HP7 : Hid _ := hp7
      clear hp7 hsO hown7 hr6 hbel6 hbel7 HPK HR HO hB6 hBk
      go_wp2
      go_roundw
      case rel => exact ⟨k + 1, by omega, by go_num, hB7, HP7.out⟩
      case measure => simp [intOf]; omega
    · go_wp2
      go_ret
      exact ⟨rfl, hBk⟩
end Go.Proofs.YtpffjeoiacaihaaDoor

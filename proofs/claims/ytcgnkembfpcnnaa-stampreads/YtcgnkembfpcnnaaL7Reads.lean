/-
  The walk of StampReads.
-/
import Derived.Test.YtcgnkembfpcnnaaL7Known
import Derived.Test.YtcgnkembfpcnnaaL7ReadsM
import Derived.Test.YtcgnkembfpcnnaaFnStG
import Derived.Test.YtcgnkembfpcnnaaLibEqual
import Derived.Deep.Cut
namespace Go.Proofs.Ytcgnkembfpcnnaa
open Go.RowKit NumMath
open StMath (St)
set_option maxRecDepth 100000
set_option linter.unusedVariables false
set_option linter.unusedSimpArgs false

set_option maxRecDepth 100000 in
set_option maxHeartbeats 32000000 in
theorem stampReads_walk (ad : Option Addr) (zs : List Int) (cap : Nat) (n : Int) (W : World) (hr : Row .u8 W ad zs) (hc : zs.length ≤ cap) (hm : cap ≤ maxLen) (hn : ad = none → cap = 0) (hw : ∀ n ∈ zs, (Lit.int .u8 n).wf = true) (hs : cap * 1 ≤ 140737488351232) (wn : (Lit.int .u8 n).wf = true) :
    Calls Try.prog 5 #[.slice ad zs.length cap, .int .u8 n] W fun e W' => e = .returned (.bool true) ∧ Below W.heap.size W W' := by
  obtain ⟨i0, hi, hz0, hz1, hz2⟩ := info_parts Try.info5
  have hnb := bounds_u8 wn
  have hbz := u8s hw
  have HK : Hid _ := known_any W
  have k1 : IntKind.i64.wrap n = n := i64_wrap hnb.1 (by omega)
  obtain ⟨m, hm12, hmod⟩ : ∃ m : Nat, m < 12 ∧ n.tmod 12 = (m : Int) := ⟨(n % 12).toNat, by omega, by rw [Int.tmod_eq_emod_of_nonneg hnb.1]; omega⟩
  obtain ⟨ym, hym0⟩ : ∃ y, y = (zs ++ [0, 1, 2, 3, 4, 5, 6, 7, 8, 9, 10]).take m := ⟨_, rfl⟩
  have hym : Hid _ := hym0
  have lym : Hid (ym.length = m) := by show ym.length = m; rw [hym0]; simp; omega
  have bym : Hid (∀ c ∈ ym, 0 ≤ c ∧ c ≤ 255) := by
    intro c hc
    rw [hym0] at hc
    rcases List.mem_append.1 (List.mem_of_mem_take hc) with h | h
    · exact hbz c h
    · exact (show ∀ c ∈ ([0, 1, 2, 3, 4, 5, 6, 7, 8, 9, 10] : List Int), 0 ≤ c ∧ c ≤ 255 by decide) c h
  clear hym0
  have HBy : Hid (∀ w, Below W.heap.size W w → Bytes w (.slice ad zs.length cap) zs) := fun w hB => ⟨ad, cap, rfl, hr.later hB, hbz, hc, hm, hn⟩
  have HROW : Hid (∀ w, Below W.heap.size W w → Row .u8 w ad zs) := fun w hB => hr.later hB
  have HNE : Hid (ad = none → zs.length = 0 ∧ cap = 0) := fun h => by have := hn h; omega
  obtain ⟨L, hL⟩ : ∃ L, L = zs.length := ⟨_, rfl⟩
  rw [← hL] at hc HBy HNE ⊢
  have HL : Hid (L = zs.length) := hL
  clear hL hr hn hw wn
  have hL47 : L ≤ 140737488351232 := by omega
  unfold maxLen at hm
  go_enter Try.func5, Try.ntmps5
  go_wp2_with fail
  refine Calls.mono HK.out ?_
  rintro e w1 ⟨rfl, hb1⟩
  have HB1 : Hid (Below W.heap.size W w1) := hb1
  have HRw : Hid (∀ w, Below w1.heap.size w1 w → Row .u8 w ad zs) := fun w hB => HROW.out w (HB1.out.trans (hB.mono HB1.out.size))
  clear hb1 HK HROW
  go_wp2_with fail
  have h0 : ∀ (ac : Act) (l : Array Bool) (w : World), 69 ≤ ac.tmps.size → l.getD 2 false = false → l.getD 3 false = false → l.getD 4 false = false → l.getD 8 false = false → l.getD 9 false = false → l.getD 10 false = false → l.getD 12 false = false → l.getD 13 false = false → l.getD 14 false = false → l.getD 15 false = false → Below w1.heap.size w1 w → (fun ac' l ac w => ∃ x15 x16 x17 x21 x22 x23 x25 x26 x27 x28, ac = ((((((((((ac'.put (some 15) x15).put (some 16) x16).put (some 17) x17).put (some 21) x21).put (some 22) x22).put (some 23) x23).put (some 25) x25).put (some 26) x26).put (some 27) x27).put (some 28) x28) ∧ RI w1 L m (zs.map (Value.int .u8)) [.int .u8 0, .int .u8 1, .int .u8 2, .int .u8 3, .int .u8 4, .int .u8 5, .int .u8 6, .int .u8 7, .int .u8 8, .int .u8 9, .int .u8 10] [.int .u8 9, .int .u8 8, .int .u8 7, .int .u8 6, .int .u8 5, .int .u8 4, .int .u8 3, .int .u8 2] (.int .u8 n) (.slice ad L cap) 28 (l.getD 2 false) (l.getD 3 false) (l.getD 4 false) (l.getD 8 false) (l.getD 9 false) (l.getD 10 false) (l.getD 12 false) (l.getD 13 false) (l.getD 14 false) w x15 x16 x17 x21 x22 x23 x25 x26 x27 ∧ (l.getD 15 false = true → x28 = .int .i64 3)) ac l ac w := by
    intro ac l w hsz n2 n3 n4 n8 n9 n10 n12 n13 n14 n15 hB
    refine ⟨ac.tmps.getD 15 undef, ac.tmps.getD 16 undef, ac.tmps.getD 17 undef, ac.tmps.getD 21 undef, ac.tmps.getD 22 undef, ac.tmps.getD 23 undef, ac.tmps.getD 25 undef, ac.tmps.getD 26 undef, ac.tmps.getD 27 undef, ac.tmps.getD 28 undef, by rw [put_self ac 15 (by omega), put_self ac 16 (by omega), put_self ac 17 (by omega), put_self ac 21 (by omega), put_self ac 22 (by omega), put_self ac 23 (by omega), put_self ac 25 (by omega), put_self ac 26 (by omega), put_self ac 27 (by omega), put_self ac 28 (by omega)], ?_, not_up n15⟩
    rw [n2, n3, n4, n8, n9, n10, n12, n13, n14]
    exact RI.init hB
  refine wp_region_held_drew (S := fun _ => True) (by kernel_rfl) trivial (fun hS => ?_)
  refine wpAnyH_take (i := 0) (v := ?_) rfl (by kernel_rfl) (by kernel_rfl) (by kernel_rfl) (fun _ _ _ h => h) (Or.inl ⟨by rfl, ?_⟩) hS ?_
  rotate_left 1
  · intro w hSw; (try dsimp only at hSw); go_simp <;> with_reducible rfl
  simp only [List.getElem_toArray, List.getElem_cons_zero, List.getElem_cons_succ, Act.put, List.setIfInBounds_toArray, List.set_cons_zero, List.set_cons_succ]
  refine wpAnyH_take (i := 1) (v := ?_) rfl (by kernel_rfl) (by kernel_rfl) (by kernel_rfl) (fun _ _ _ h => h) (Or.inl ⟨by rfl, ?_⟩) hS ?_
  rotate_left 1
  · intro w hSw; (try dsimp only at hSw); go_simp <;> with_reducible rfl
  simp only [List.getElem_toArray, List.getElem_cons_zero, List.getElem_cons_succ, Act.put, List.setIfInBounds_toArray, List.set_cons_zero, List.set_cons_succ]
  refine wpAnyH_take (i := 5) (v := ?_) rfl (by kernel_rfl) (by kernel_rfl) (by kernel_rfl) (fun _ _ _ h => h) (Or.inl ⟨by rfl, ?_⟩) hS ?_
  rotate_left 1
  · intro w hSw; (try dsimp only at hSw); go_simp <;> with_reducible rfl
  simp only [List.getElem_toArray, List.getElem_cons_zero, List.getElem_cons_succ, Act.put, List.setIfInBounds_toArray, List.set_cons_zero, List.set_cons_succ]
  refine wpAnyH_take (i := 6) (v := ?_) rfl (by kernel_rfl) (by kernel_rfl) (by kernel_rfl) (fun _ _ _ h => h) (Or.inl ⟨by rfl, ?_⟩) hS ?_
  rotate_left 1
  · intro w hSw; (try dsimp only at hSw); go_simp <;> with_reducible rfl
  simp only [List.getElem_toArray, List.getElem_cons_zero, List.getElem_cons_succ, Act.put, List.setIfInBounds_toArray, List.set_cons_zero, List.set_cons_succ]
  refine wpAnyH_take (i := 7) (v := ?_) rfl (by kernel_rfl) (by kernel_rfl) (by kernel_rfl) (fun _ _ _ h => h) (Or.inl ⟨by rfl, ?_⟩) hS ?_
  rotate_left 1
  · intro w hSw; (try dsimp only at hSw); go_simp <;> with_reducible rfl
  simp only [List.getElem_toArray, List.getElem_cons_zero, List.getElem_cons_succ, Act.put, List.setIfInBounds_toArray, List.set_cons_zero, List.set_cons_succ]
  refine wpAnyH_take (i := 11) (v := ?_) rfl (by kernel_rfl) (by kernel_rfl) (by kernel_rfl) (fun _ _ _ h => h) (Or.inl ⟨by rfl, ?_⟩) hS ?_
  rotate_left 1
  · intro w hSw; (try dsimp only at hSw); go_simp <;> with_reducible rfl
  simp only [List.getElem_toArray, List.getElem_cons_zero, List.getElem_cons_succ, Act.put, List.setIfInBounds_toArray, List.set_cons_zero, List.set_cons_succ]
  refine wpAnyH_take (i := 16) (v := ?_) rfl (by kernel_rfl) (by kernel_rfl) (by kernel_rfl) (fun _ _ _ h => h) (Or.inl ⟨by rfl, ?_⟩) hS ?_
  rotate_left 1
  · intro w hSw; (try dsimp only at hSw); go_simp <;> with_reducible rfl
  simp only [List.getElem_toArray, List.getElem_cons_zero, List.getElem_cons_succ, Act.put, List.setIfInBounds_toArray, List.set_cons_zero, List.set_cons_succ]
  refine wpAnyH_invN_at (Rel := fun ac' l ac w => ∃ x15 x16 x17 x21 x22 x23 x25 x26 x27 x28, ac = ((((((((((ac'.put (some 15) x15).put (some 16) x16).put (some 17) x17).put (some 21) x21).put (some 22) x22).put (some 23) x23).put (some 25) x25).put (some 26) x26).put (some 27) x27).put (some 28) x28) ∧ RI w1 L m (zs.map (Value.int .u8)) [.int .u8 0, .int .u8 1, .int .u8 2, .int .u8 3, .int .u8 4, .int .u8 5, .int .u8 6, .int .u8 7, .int .u8 8, .int .u8 9, .int .u8 10] [.int .u8 9, .int .u8 8, .int .u8 7, .int .u8 6, .int .u8 5, .int .u8 4, .int .u8 3, .int .u8 2] (.int .u8 n) (.slice ad L cap) 28 (l.getD 2 false) (l.getD 3 false) (l.getD 4 false) (l.getD 8 false) (l.getD 9 false) (l.getD 10 false) (l.getD 12 false) (l.getD 13 false) (l.getD 14 false) w x15 x16 x17 x21 x22 x23 x25 x26 x27 ∧ (l.getD 15 false = true → x28 = .int .i64 3)) (rs := [2, 3, 4, 8, 9, 10, 12, 13, 14, 15]) (by kernel_rfl) (by kernel_rfl) (by kernel_rfl) (of_decide_eq_true (by kernel_rfl)) ?_ ?_ ?_
  · exact h0 _ _ _ (of_decide_eq_true (by kernel_rfl)) (by kernel_rfl) (by kernel_rfl) (by kernel_rfl) (by kernel_rfl) (by kernel_rfl) (by kernel_rfl) (by kernel_rfl) (by kernel_rfl) (by kernel_rfl) (by kernel_rfl) (Below.refl _ _).drew
  · simp only [Act.put, List.setIfInBounds_toArray, List.set_cons_zero, List.set_cons_succ]
    refine InvStepsN.cons rfl (fun l ac w hsz hni hI hdep K hK => ?_) (InvStepsN.cons rfl (fun l ac w hsz hni hI hdep K hK => ?_) (InvStepsN.cons rfl (fun l ac w hsz hni hI hdep K hK => ?_) (InvStepsN.cons rfl (fun l ac w hsz hni hI hdep K hK => ?_) (InvStepsN.cons rfl (fun l ac w hsz hni hI hdep K hK => ?_) (InvStepsN.cons rfl (fun l ac w hsz hni hI hdep K hK => ?_) (InvStepsN.cons rfl (fun l ac w hsz hni hI hdep K hK => ?_) (InvStepsN.cons rfl (fun l ac w hsz hni hI hdep K hK => ?_) (InvStepsN.cons rfl (fun l ac w hsz hni hI hdep K hK => ?_) (InvStepsN.cons rfl (fun l ac w hsz hni hI hdep K hK => ?_) (InvStepsN.nil))))))))))
    · obtain ⟨x15, x16, x17, x21, x22, x23, x25, x26, x27, x28, rfl, hRI, h15⟩ := hI
      rw [hni] at hRI
      have hrow := HRw.out _ (RI.bel hRI)
      rw [if_pos (by rfl)]
      refine wp_append_own_any (.const (.slice none 0 0)) (.tmp 14) 28 rfl w.heap.size 5 i0 (.int .u8 0) 1 1 Try.underlying28 hi hz0 hz1 hz2 rfl (by decide) (.slice none 0 0) 0 [] rfl (World.ownsRow_nil _ _ _ _) ad L cap (zs.map (Value.int .u8)) rfl (by rw [List.length_map, HL.out, Nat.mul_one]) HNE.out (Row.news hrow) (ints_oneCell _ _) (by unfold maxLen; omega) (by omega) (Nat.le_refl _) ?_
      intro y w2 hown hgrow
      rw [Nat.zero_add, List.nil_append] at hown
      refine hK.out _ _ ⟨y, x16, x17, x21, x22, x23, x25, x26, x27, x28, rfl, ?_, fun h => h15 (up_keep h (by decide))⟩
      rw [set_self (by rw [hsz]; decide), set_other (i := 2) (j := 3) (by decide), set_other (i := 2) (j := 4) (by decide), set_other (i := 2) (j := 8) (by decide), set_other (i := 2) (j := 9) (by decide), set_other (i := 2) (j := 10) (by decide), set_other (i := 2) (j := 12) (by decide), set_other (i := 2) (j := 13) (by decide), set_other (i := 2) (j := 14) (by decide)]
      exact RI.set2 hRI (grown_below hgrow) hown
    · obtain ⟨x15, x16, x17, x21, x22, x23, x25, x26, x27, x28, rfl, hRI, h15⟩ := hI
      have HRI : Hid _ := hRI
      have H15 : Hid _ := h15
      have HSZ : Hid _ := hsz
      clear hRI h15 hsz hdep
      go_simp
      have hRI := HRI.out
      have h15 := H15.out
      have hsz := HSZ.out
      refine hK.out _ _ ⟨x15, .slice (some ⟨w.heap.size, 0, none⟩) 11 11, x17, x21, x22, x23, x25, x26, x27, x28, rfl, ?_, fun h => h15 (up_keep h (by decide))⟩
      rw [set_other (i := 3) (j := 2) (by decide), set_self (by rw [hsz]; decide), set_other (i := 3) (j := 4) (by decide), set_other (i := 3) (j := 8) (by decide), set_other (i := 3) (j := 9) (by decide), set_other (i := 3) (j := 10) (by decide), set_other (i := 3) (j := 12) (by decide), set_other (i := 3) (j := 13) (by decide), set_other (i := 3) (j := 14) (by decide)]
      exact RI.lit3 hRI
    · obtain ⟨x15, x16, x17, x21, x22, x23, x25, x26, x27, x28, rfl, hRI, h15⟩ := hI
      have d2 := hdep { on := 2, ground := .data } (by simp) rfl
      have d3 := hdep { on := 3, ground := .data } (by simp) rfl
      rw [d2, d3, hni] at hRI
      obtain ⟨B, ho, hB⟩ := (RI.h2 hRI rfl).1 rfl
      obtain ⟨g, rfl, hA, _, _⟩ := (RI.h3 hRI rfl).ex
      rw [if_pos (by rfl)]
      refine wp_append_own _ (.tmp 15) (.tmp 16) 28 rfl B 5 i0 (.int .u8 0) 1 1 Try.underlying28 hi hz0 hz1 hz2 rfl (by decide) x15 L _ rfl ho ⟨g, 0, none⟩ 11 11 [.int .u8 0, .int .u8 1, .int .u8 2, .int .u8 3, .int .u8 4, .int .u8 5, .int .u8 6, .int .u8 7, .int .u8 8, .int .u8 9, .int .u8 10] rfl rfl (arr_news hA) (by decide) (by unfold maxLen; omega) (by omega) hB ?_
      intro y w2 hown hgrow _
      refine hK.out _ _ ⟨x15, .slice (some ⟨g, 0, none⟩) 11 11, y, x21, x22, x23, x25, x26, x27, x28, rfl, ?_, fun h => h15 (up_keep h (by decide))⟩
      rw [set_other (i := 4) (j := 2) (by decide), set_other (i := 4) (j := 3) (by decide), set_self (by rw [hsz]; decide), set_other (i := 4) (j := 8) (by decide), set_other (i := 4) (j := 9) (by decide), set_other (i := 4) (j := 10) (by decide), set_other (i := 4) (j := 12) (by decide), set_other (i := 4) (j := 13) (by decide), set_other (i := 4) (j := 14) (by decide), d2, d3]
      exact RI.set4 hRI hgrow hown
    · obtain ⟨x15, x16, x17, x21, x22, x23, x25, x26, x27, x28, rfl, hRI, h15⟩ := hI
      have d4 := hdep { on := 4, ground := .data } (by simp) rfl
      rw [d4, hni] at hRI
      obtain ⟨g, q, B, rfl, ho, hq, hqm, hq23⟩ := RI.h4 hRI rfl
      have i17 : (m : Int) ≤ (q : Int) := by omega
      have HRI : Hid _ := hRI
      have H15 : Hid _ := h15
      have HSZ : Hid _ := hsz
      have HD4 : Hid _ := d4
      clear hRI h15 hsz hdep ho hq23 d4
      go_simp
      have hRI := HRI.out
      have h15 := H15.out
      have hsz := HSZ.out
      refine hK.out _ _ ⟨x15, x16, .slice (some ⟨g, 0, none⟩) (L + 11) q, .slice (some ⟨g, 0, none⟩) m q, x22, x23, x25, x26, x27, x28, rfl, ?_, fun h => h15 (up_keep h (by decide))⟩
      rw [set_other (i := 8) (j := 2) (by decide), set_other (i := 8) (j := 3) (by decide), set_other (i := 8) (j := 4) (by decide), set_self (by rw [hsz]; decide), set_other (i := 8) (j := 9) (by decide), set_other (i := 8) (j := 10) (by decide), set_other (i := 8) (j := 12) (by decide), set_other (i := 8) (j := 13) (by decide), set_other (i := 8) (j := 14) (by decide), HD4.out]
      exact RI.set8 hRI rfl
    · obtain ⟨x15, x16, x17, x21, x22, x23, x25, x26, x27, x28, rfl, hRI, h15⟩ := hI
      have HRI : Hid _ := hRI
      have H15 : Hid _ := h15
      have HSZ : Hid _ := hsz
      clear hRI h15 hsz hdep
      go_simp
      have hRI := HRI.out
      have h15 := H15.out
      have hsz := HSZ.out
      refine hK.out _ _ ⟨x15, x16, x17, x21, .slice (some ⟨w.heap.size, 0, none⟩) 8 8, x23, x25, x26, x27, x28, rfl, ?_, fun h => h15 (up_keep h (by decide))⟩
      rw [set_other (i := 9) (j := 2) (by decide), set_other (i := 9) (j := 3) (by decide), set_other (i := 9) (j := 4) (by decide), set_other (i := 9) (j := 8) (by decide), set_self (by rw [hsz]; decide), set_other (i := 9) (j := 10) (by decide), set_other (i := 9) (j := 12) (by decide), set_other (i := 9) (j := 13) (by decide), set_other (i := 9) (j := 14) (by decide)]
      exact RI.lit9 hRI
    · obtain ⟨x15, x16, x17, x21, x22, x23, x25, x26, x27, x28, rfl, hRI, h15⟩ := hI
      have d9 := hdep { on := 9, ground := .data } (by simp) rfl
      have d4 := hdep { on := 4, ground := .chain } (by simp) rfl
      rw [d9, d4, hni] at hRI
      obtain ⟨g, rfl, hA, _, _⟩ := (RI.h9 hRI rfl).ex
      rw [if_pos (by rfl)]
      refine wp_append_own_any (.const (.slice none 0 0)) (.tmp 22) 28 rfl w.heap.size 5 i0 (.int .u8 0) 1 1 Try.underlying28 hi hz0 hz1 hz2 rfl (by decide) (.slice none 0 0) 0 [] rfl (World.ownsRow_nil _ _ _ _) (some ⟨g, 0, none⟩) 8 8 [.int .u8 9, .int .u8 8, .int .u8 7, .int .u8 6, .int .u8 5, .int .u8 4, .int .u8 3, .int .u8 2] rfl rfl (fun h => by cases h) (fun _ e => by cases e; exact arr_news hA) (by decide) (by decide) (by decide) (Nat.le_refl _) ?_
      intro y w2 hown hgrow
      rw [Nat.zero_add, List.nil_append] at hown
      refine hK.out _ _ ⟨x15, x16, x17, x21, .slice (some ⟨g, 0, none⟩) 8 8, y, x25, x26, x27, x28, rfl, ?_, fun h => h15 (up_keep h (by decide))⟩
      rw [set_other (i := 10) (j := 2) (by decide), set_other (i := 10) (j := 3) (by decide), set_other (i := 10) (j := 4) (by decide), set_other (i := 10) (j := 8) (by decide), set_other (i := 10) (j := 9) (by decide), set_self (by rw [hsz]; decide), set_other (i := 10) (j := 12) (by decide), set_other (i := 10) (j := 13) (by decide), set_other (i := 10) (j := 14) (by decide), d9, d4]
      exact RI.set10 hRI (grown_below hgrow) hown
    · obtain ⟨x15, x16, x17, x21, x22, x23, x25, x26, x27, x28, rfl, hRI, h15⟩ := hI
      have HRI : Hid _ := hRI
      have H15 : Hid _ := h15
      have HSZ : Hid _ := hsz
      clear hRI h15 hsz hdep
      go_simp
      have hRI := HRI.out
      have h15 := H15.out
      have hsz := HSZ.out
      refine hK.out _ _ ⟨x15, x16, x17, x21, x22, x23, .slice (some ⟨w.heap.size, 0, none⟩) 1 1, x26, x27, x28, rfl, ?_, fun h => h15 (up_keep h (by decide))⟩
      rw [set_other (i := 12) (j := 2) (by decide), set_other (i := 12) (j := 3) (by decide), set_other (i := 12) (j := 4) (by decide), set_other (i := 12) (j := 8) (by decide), set_other (i := 12) (j := 9) (by decide), set_other (i := 12) (j := 10) (by decide), set_self (by rw [hsz]; decide), set_other (i := 12) (j := 13) (by decide), set_other (i := 12) (j := 14) (by decide)]
      exact RI.lit12 hRI
    · obtain ⟨x15, x16, x17, x21, x22, x23, x25, x26, x27, x28, rfl, hRI, h15⟩ := hI
      have d10 := hdep { on := 10, ground := .data } (by simp) rfl
      have d12 := hdep { on := 12, ground := .data } (by simp) rfl
      rw [d10, d12, hni] at hRI
      obtain ⟨B, ho, hB⟩ := (RI.h10 hRI rfl).1 rfl
      obtain ⟨g, rfl, hA, _, _⟩ := (RI.h12 hRI rfl).ex
      rw [if_pos (by rfl)]
      refine wp_append_own _ (.tmp 23) (.tmp 25) 28 rfl B 5 i0 (.int .u8 0) 1 1 Try.underlying28 hi hz0 hz1 hz2 rfl (by decide) x23 8 _ rfl ho ⟨g, 0, none⟩ 1 1 [.int .u8 n] rfl rfl (arr_news hA) (one_cell _ _) (by decide) (by decide) hB ?_
      intro y w2 hown hgrow _
      refine hK.out _ _ ⟨x15, x16, x17, x21, x22, x23, .slice (some ⟨g, 0, none⟩) 1 1, y, x27, x28, rfl, ?_, fun h => h15 (up_keep h (by decide))⟩
      rw [set_other (i := 13) (j := 2) (by decide), set_other (i := 13) (j := 3) (by decide), set_other (i := 13) (j := 4) (by decide), set_other (i := 13) (j := 8) (by decide), set_other (i := 13) (j := 9) (by decide), set_other (i := 13) (j := 10) (by decide), set_other (i := 13) (j := 12) (by decide), set_self (by rw [hsz]; decide), set_other (i := 13) (j := 14) (by decide), d10, d12]
      exact RI.set13 hRI hgrow hown
    · obtain ⟨x15, x16, x17, x21, x22, x23, x25, x26, x27, x28, rfl, hRI, h15⟩ := hI
      have d8 := hdep { on := 8, ground := .data } (by simp) rfl
      have d13 := hdep { on := 13, ground := .data } (by simp) rfl
      rw [d8, d13] at hRI
      obtain ⟨g17, q17, e17, e21⟩ := RI.h8 hRI rfl
      obtain ⟨B, ho26⟩ := RI.h13 hRI rfl
      obtain ⟨g26, q26, e26, _, _, _⟩ := own_some ho26 (by decide)
      subst e21 e26
      clear e17 ho26
      have HRI : Hid _ := hRI
      have H15 : Hid _ := h15
      have HSZ : Hid _ := hsz
      have HD8 : Hid _ := d8
      have HD13 : Hid _ := d13
      clear hRI h15 hsz hdep d8 d13
      go_simp
      have hRI := HRI.out
      have h15 := H15.out
      have hsz := HSZ.out
      refine hK.out _ _ ⟨x15, x16, x17, .slice (some ⟨g17, 0, none⟩) m q17, x22, x23, x25, .slice (some ⟨g26, 0, none⟩) 9 q26, .slice (some ⟨w.heap.size, 0, none⟩) 3 3, x28, rfl, ?_, fun h => h15 (up_keep h (by decide))⟩
      rw [set_other (i := 14) (j := 2) (by decide), set_other (i := 14) (j := 3) (by decide), set_other (i := 14) (j := 4) (by decide), set_other (i := 14) (j := 8) (by decide), set_other (i := 14) (j := 9) (by decide), set_other (i := 14) (j := 10) (by decide), set_other (i := 14) (j := 12) (by decide), set_other (i := 14) (j := 13) (by decide), set_self (by rw [hsz]; decide), HD8.out, HD13.out]
      exact RI.set14 hRI
    · obtain ⟨x15, x16, x17, x21, x22, x23, x25, x26, x27, x28, rfl, hRI, h15⟩ := hI
      have d14 := hdep { on := 14, ground := .data } (by simp) rfl
      obtain ⟨G, hx27, _⟩ := RI.h14 hRI d14
      have HRI : Hid _ := hRI
      have HSZ : Hid _ := hsz
      clear hRI h15 hsz hdep d14
      subst hx27
      go_simp
      have hRI := HRI.out
      have hsz := HSZ.out
      refine hK.out _ _ ⟨x15, x16, x17, x21, x22, x23, x25, x26, .slice (some ⟨G, 0, none⟩) 3 3, .int .i64 3, rfl, ?_, fun _ => rfl⟩
      rw [set_other (i := 15) (j := 2) (by decide), set_other (i := 15) (j := 3) (by decide), set_other (i := 15) (j := 4) (by decide), set_other (i := 15) (j := 8) (by decide), set_other (i := 15) (j := 9) (by decide), set_other (i := 15) (j := 10) (by decide), set_other (i := 15) (j := 12) (by decide), set_other (i := 15) (j := 13) (by decide), set_other (i := 15) (j := 14) (by decide)]
      exact hRI
  · simp only [Act.put, List.setIfInBounds_toArray, List.set_cons_zero, List.set_cons_succ]
    rintro l ac w5 ⟨x15, x16, x17, x21, x22, x23, x25, x26, x27, x28, rfl, hRI, h15⟩ hall
    have e28 := h15 (hall 15 (by decide))
    rw [hall 2 (by decide), hall 3 (by decide), hall 4 (by decide), hall 8 (by decide), hall 9 (by decide), hall 10 (by decide), hall 12 (by decide), hall 13 (by decide), hall 14 (by decide)] at hRI
    obtain ⟨G, e27, hG⟩ := RI.h14 hRI rfl
    obtain ⟨g17, q17, e17, e21⟩ := RI.h8 hRI rfl
    obtain ⟨g, q, B, e17', ho17, hq, hqm, _⟩ := RI.h4 hRI rfl
    obtain ⟨B2, ho26⟩ := RI.h13 hRI rfl
    have HW5 : Hid (Below w1.heap.size w1 w5) := RI.bel hRI
    subst e28 e27 e21
    rw [e17] at e17' ho17
    cases e17'
    have HY2 : Hid (Bytes w5 (.slice (some ⟨g17, 0, none⟩) m q17) ym) := by
      have h1 : w5.ownsRow B 5 1 (.slice (some ⟨g17, 0, none⟩) (L + 11) q17) (L + 11) ((zs ++ [0, 1, 2, 3, 4, 5, 6, 7, 8, 9, 10]).map (Value.int .u8)) := by rw [List.map_append]; exact ho17
      have hrw := own_row h1 m (by omega)
      rw [← hym.out] at hrw
      exact ⟨_, q17, by rw [lym.out], hrw, bym.out, by rw [lym.out]; omega, by omega, fun h => by cases h⟩
    have HY3 : Hid (Bytes w5 x26 [9, 8, 7, 6, 5, 4, 3, 2, n]) := own_bytes (xs := [9, 8, 7, 6, 5, 4, 3, 2, n]) ho26 (by intro c hc; simp at hc; omega)
    have HBW : Hid (Below W.heap.size W w5) := HB1.out.trans (HW5.out.mono HB1.out.size)
    have HY1 : Hid (Bytes w5 (.slice ad L cap) zs) := HBy.out w5 HBW.out
    have HV : Hid (∀ k, k < 3 → ∃ v ys, w5.cell? ⟨G, k, none⟩ = some v ∧ Bytes w5 v ys) := by
      intro k hk
      match k, hk with
      | 0, _ => exact ⟨_, _, Arr.cell hG 0, HY1.out⟩
      | 1, _ => exact ⟨_, _, Arr.cell hG 1, HY2.out⟩
      | 2, _ => exact ⟨_, _, Arr.cell hG 2, HY3.out⟩
    clear hRI h15 hall hG ho17 hq hqm ho26 HW5 HY1 HY2 HY3 HRw h0 e17 hym lym bym HBy HNE HL
    go_wp2
    go_loopw [29] (fun i wr => ∃ k : Nat, k ≤ 3 ∧ i = .int .i64 k ∧ Below w5.heap.size w5 wr) (fun i _ => 3 - (intOf i).toNat)
    case atStart => exact ⟨0, by omega, rfl, Below.refl _ _⟩
    case round =>
      obtain ⟨k, hk, rfl, hB⟩ := hrel
      by_cases hk3 : k < 3
      · have hk3' : (k : Int) < 3 := by omega
        obtain ⟨v, ys, hcell, hby⟩ := HV.out k hk3
        have hcw := cell_later hcell hB
        obtain ⟨av, cv, rfl, hrow, hbb, hcc, hmm, hnn⟩ := hby
        have HBv : Hid (∀ w, Below w5.heap.size w5 w → Bytes w (.slice av ys.length cv) ys) := fun w hw => ⟨av, cv, rfl, hrow.later hw, hbb, hcc, hmm, hnn⟩
        have HR1 : Hid (∀ w, Below w5.heap.size w5 w → _) := fun w (hw : Below w5.heap.size w5 w) => stRead_any av ys cv w (hrow.later hw) hbb hcc hmm
        have HR2 : Hid (∀ w, Below w5.heap.size w5 w → _) := fun w (hw : Below w5.heap.size w5 w) => refRead_any av ys cv w (hrow.later hw) hbb hcc hmm
        have HOK : Hid ((StMath.read ys).2 = 0 → StMath.right (StMath.read ys).1 = true ∧ StMath.bytes (StMath.read ys).1 = ys) := fun h => StMath.read_ok hbb h
        generalize (StMath.read ys).1 = x at *
        generalize (StMath.read ys).2 = er at *
        unfold stV at HR1 HR2
        generalize ys.length = lv at *
        have HB : Hid _ := hB
        clear hcell hrow hbb hcc hmm hnn hB
        go_wp2_with fail
        refine Calls.mono (HR1.out _ HB.out) ?_
        rintro e v1 ⟨rfl, hb1⟩
        have HBa : Hid (Below w5.heap.size w5 v1) := HB.out.trans (hb1.mono HB.out.size)
        clear hb1 hcw
        have HX0 : Hid (StAt (v1.alloc (.cells #[.int .i64 0, .int .i64 0, .int .i64 0] 23)) v1.heap.size StMath.zero) := StAt.new v1 StMath.zero rfl
        go_upto_region 7 with (refine wpList_store_st rfl (.tmp 7) (.tmp 36) rfl v1.heap.size StMath.zero x rfl rfl HX0.out ?_)
        (try simp only [Act.put, List.setIfInBounds_toArray, List.set_cons_zero, List.set_cons_succ])
        have HX1 : Hid (StAt ((v1.alloc (.cells #[.int .i64 0, .int .i64 0, .int .i64 0] 23)).setRow v1.heap.size (stL x).toArray) v1.heap.size x) := StAt.row HX0.out
        have HBb : Hid (Below w5.heap.size w5 ((v1.alloc (.cells #[.int .i64 0, .int .i64 0, .int .i64 0] 23)).setRow v1.heap.size (stL x).toArray)) := below_setRow (HBa.out.alloc HBa.out.size _) HBa.out.size _
        clear HX0 HBa
        generalize (v1.alloc (.cells #[.int .i64 0, .int .i64 0, .int .i64 0] 23)).setRow v1.heap.size (stL x).toArray = v2 at *
        generalize v1.heap.size = g7 at *
        go_wp2_with fail
        refine Calls.mono (HR2.out _ HBb.out) ?_
        rintro e v3 ⟨rfl, hb3⟩
        have HBc : Hid (Below w5.heap.size w5 v3) := HBb.out.trans (hb3.mono HBb.out.size)
        have HX3 : Hid (StAt v3 g7 x) := HX1.out.later hb3 HX1.out.lt
        have hlt3 := HX3.out.lt
        clear hb3 HX1 HBb
        have HY0 : Hid (StAt (v3.alloc (.cells #[.int .i64 0, .int .i64 0, .int .i64 0] 23)) v3.heap.size StMath.zero) := StAt.new v3 StMath.zero rfl
        go_upto_region 8 with (refine wpList_store_st rfl (.tmp 9) (.tmp 41) rfl v3.heap.size StMath.zero x rfl rfl HY0.out ?_)
        (try simp only [Act.put, List.setIfInBounds_toArray, List.set_cons_zero, List.set_cons_succ])
        have HY4 : Hid (StAt ((v3.alloc (.cells #[.int .i64 0, .int .i64 0, .int .i64 0] 23)).setRow v3.heap.size (stL x).toArray) v3.heap.size x) := StAt.row HY0.out
        have HX4 : Hid (StAt ((v3.alloc (.cells #[.int .i64 0, .int .i64 0, .int .i64 0] 23)).setRow v3.heap.size (stL x).toArray) g7 x) := StAt.row_other (HX3.out.alloc _) _ (by omega)
        have HBd : Hid (Below w5.heap.size w5 ((v3.alloc (.cells #[.int .i64 0, .int .i64 0, .int .i64 0] 23)).setRow v3.heap.size (stL x).toArray)) := below_setRow (HBc.out.alloc HBc.out.size _) HBc.out.size _
        clear HY0 HX3 HBc
        generalize (v3.alloc (.cells #[.int .i64 0, .int .i64 0, .int .i64 0] 23)).setRow v3.heap.size (stL x).toArray = v4 at *
        generalize v3.heap.size = g9 at *
        have HX5 : Hid (StAt v4.drew g7 x) := HX4.out.drew
        have HY5 : Hid (StAt v4.drew g9 x) := HY4.out.drew
        have HB5 : Hid (Below w5.heap.size w5 v4.drew) := HBd.out.drew
        clear HX4 HY4 HBd
        have ecases : ((er == 0) = true ∧ Hid (er = 0)) ∨ (er == 0) = false := by
          cases h : (er == 0) with
          | true => exact .inl ⟨rfl, (show er = 0 by simpa using h)⟩
          | false => exact .inr rfl
        rcases ecases with ⟨q0, HE0⟩ | q0
        · obtain ⟨hri, hbe⟩ := HOK.out HE0.out
          have HCr : Hid (∀ w, _) := fun w => stRight_any x w
          have HCb : Hid (∀ w, _) := fun w => stBytes_any x w
          rw [hri] at HCr
          rw [hbe] at HCb
          unfold stV at HCr HCb
          clear hri hbe
          refine wp_region_held_drew (S := fun w' => w'.cell? ⟨g7, 0, none⟩ = some (.int .i64 x.p) ∧ w'.cell? ⟨g7, 1, none⟩ = some (.int .i64 x.l) ∧ w'.cell? ⟨g7, 2, none⟩ = some (.int .i64 x.r) ∧ w'.cell? ⟨g9, 0, none⟩ = some (.int .i64 x.p) ∧ w'.cell? ⟨g9, 1, none⟩ = some (.int .i64 x.l) ∧ w'.cell? ⟨g9, 2, none⟩ = some (.int .i64 x.r) ∧ (convert 28 9 (.slice av lv cv)).run Try.prog w' = .ok (.string (strOfNums ys)) w') (by kernel_rfl) ⟨HX5.out.cells.1, HX5.out.cells.2.1, HX5.out.cells.2.2, HY5.out.cells.1, HY5.out.cells.2.1, HY5.out.cells.2.2, bytes_string (HBv.out _ HB5.out)⟩ (fun hS => ?_)
          generalize v4.drew = v5 at *
          refine wpAnyH_take (i := 0) (v := ?_) rfl (by kernel_rfl) (by kernel_rfl) (by kernel_rfl) (fun _ _ _ h => h) (Or.inl ⟨by rfl, ?_⟩) hS ?_
          rotate_left 1
          · intro w hSw; (try dsimp only at hSw); go_simp <;> with_reducible rfl
          simp only [List.getElem_toArray, List.getElem_cons_zero, List.getElem_cons_succ, Act.put, List.setIfInBounds_toArray, List.set_cons_zero, List.set_cons_succ]
          refine wpAnyH_take (i := 1) (v := ?_) rfl (by kernel_rfl) (by kernel_rfl) (by kernel_rfl) (fun _ _ _ h => h) (Or.inl ⟨by rfl, ?_⟩) hS ?_
          rotate_left 1
          · intro w hSw; (try dsimp only at hSw); go_simp <;> with_reducible rfl
          simp only [List.getElem_toArray, List.getElem_cons_zero, List.getElem_cons_succ, Act.put, List.setIfInBounds_toArray, List.set_cons_zero, List.set_cons_succ]
          refine wpAnyH_take (i := 2) (v := ?_) rfl (by kernel_rfl) (by kernel_rfl) (by kernel_rfl) (fun _ _ _ h => h) (Or.inl ⟨by rfl, ?_⟩) hS ?_
          rotate_left 1
          · intro w hSw; (try dsimp only at hSw); go_simp <;> with_reducible rfl
          simp only [List.getElem_toArray, List.getElem_cons_zero, List.getElem_cons_succ, Act.put, List.setIfInBounds_toArray, List.set_cons_zero, List.set_cons_succ]
          refine wpAnyH_take (i := 3) (v := ?_) rfl (by kernel_rfl) (by kernel_rfl) (by kernel_rfl) (fun _ _ _ h => h) (Or.inl ⟨by rfl, ?_⟩) hS ?_
          rotate_left 1
          · intro w hSw; (try dsimp only at hSw); go_simp <;> with_reducible rfl
          simp only [List.getElem_toArray, List.getElem_cons_zero, List.getElem_cons_succ, Act.put, List.setIfInBounds_toArray, List.set_cons_zero, List.set_cons_succ]
          refine wpAnyH_take (i := 4) (v := ?_) rfl (by kernel_rfl) (by kernel_rfl) (by kernel_rfl) (fun _ _ _ h => h) (Or.inl ⟨by rfl, ?_⟩) hS ?_
          rotate_left 1
          · intro w hSw; (try dsimp only at hSw); go_simp <;> with_reducible rfl
          simp only [List.getElem_toArray, List.getElem_cons_zero, List.getElem_cons_succ, Act.put, List.setIfInBounds_toArray, List.set_cons_zero, List.set_cons_succ]
          refine wpAnyH_take (i := 5) (v := ?_) rfl (by kernel_rfl) (by kernel_rfl) (by kernel_rfl) (fun _ _ _ h => h) (Or.inl ⟨by rfl, ?_⟩) hS ?_
          rotate_left 1
          · intro w hSw; (try dsimp only at hSw); go_simp <;> with_reducible rfl
          simp only [List.getElem_toArray, List.getElem_cons_zero, List.getElem_cons_succ, Act.put, List.setIfInBounds_toArray, List.set_cons_zero, List.set_cons_succ]
          refine wpAnyH_take (i := 6) (v := ?_) rfl (by kernel_rfl) (by kernel_rfl) (by kernel_rfl) (fun _ _ _ h => h) (Or.inl ⟨by rfl, ?_⟩) hS ?_
          rotate_left 1
          · intro w hSw; (try dsimp only at hSw); go_simp <;> with_reducible rfl
          simp only [List.getElem_toArray, List.getElem_cons_zero, List.getElem_cons_succ, Act.put, List.setIfInBounds_toArray, List.set_cons_zero, List.set_cons_succ]
          refine wpAnyH_take (i := 7) (v := ?_) rfl (by kernel_rfl) (by kernel_rfl) (by kernel_rfl) (fun _ _ _ h => h) (Or.inl ⟨by rfl, ?_⟩) hS ?_
          rotate_left 1
          · intro w hSw; (try dsimp only at hSw); go_simp <;> with_reducible rfl
          simp only [List.getElem_toArray, List.getElem_cons_zero, List.getElem_cons_succ, Act.put, List.setIfInBounds_toArray, List.set_cons_zero, List.set_cons_succ]
          refine wpAnyH_take (i := 8) (v := ?_) rfl (by kernel_rfl) (by kernel_rfl) (by kernel_rfl) (fun _ _ _ h => h) (Or.inl ⟨by rfl, ?_⟩) hS ?_
          rotate_left 1
          · intro w hSw; (try dsimp only at hSw); go_simp <;> with_reducible rfl
          simp only [List.getElem_toArray, List.getElem_cons_zero, List.getElem_cons_succ, Act.put, List.setIfInBounds_toArray, List.set_cons_zero, List.set_cons_succ]
          refine wpAnyH_take (i := 9) (v := ?_) rfl (by kernel_rfl) (by kernel_rfl) (by kernel_rfl) (fun _ _ _ h => h) (Or.inl ⟨by rfl, ?_⟩) hS ?_
          rotate_left 1
          · intro w hSw; (try dsimp only at hSw); go_simp <;> with_reducible rfl
          simp only [List.getElem_toArray, List.getElem_cons_zero, List.getElem_cons_succ, Act.put, List.setIfInBounds_toArray, List.set_cons_zero, List.set_cons_succ]
          refine wpAnyH_take (i := 10) (v := ?_) rfl (by kernel_rfl) (by kernel_rfl) (by kernel_rfl) (fun _ _ _ h => h) (Or.inl ⟨by rfl, ?_⟩) hS ?_
          rotate_left 1
          · intro w hSw; (try dsimp only at hSw); go_simp <;> with_reducible rfl
          simp only [List.getElem_toArray, List.getElem_cons_zero, List.getElem_cons_succ, Act.put, List.setIfInBounds_toArray, List.set_cons_zero, List.set_cons_succ]
          refine wpAnyH_take (i := 11) (v := ?_) rfl (by kernel_rfl) (by kernel_rfl) (by kernel_rfl) (fun _ _ _ h => h) (Or.inl ⟨by rfl, ?_⟩) hS ?_
          rotate_left 1
          · intro w hSw; (try dsimp only at hSw); go_simp <;> with_reducible rfl
          simp only [List.getElem_toArray, List.getElem_cons_zero, List.getElem_cons_succ, Act.put, List.setIfInBounds_toArray, List.set_cons_zero, List.set_cons_succ]
          refine wpAnyH_take (i := 12) (v := ?_) rfl (by kernel_rfl) (by kernel_rfl) (by kernel_rfl) (fun _ _ _ h => h) (Or.inl ⟨by rfl, ?_⟩) hS ?_
          rotate_left 1
          · intro w hSw; (try dsimp only at hSw); go_simp <;> with_reducible rfl
          simp only [List.getElem_toArray, List.getElem_cons_zero, List.getElem_cons_succ, Act.put, List.setIfInBounds_toArray, List.set_cons_zero, List.set_cons_succ]
          refine wpAnyH_ready (rs := [13]) (by kernel_rfl) (by simp) ?_
          refine AllReadyH.cons rfl (fun K hK => ?_) AllReadyH.nil
          go_simp
          refine Calls.mono (HCr.out _) ?_
          rintro e v6 ⟨rfl, hbx⟩
          have HX6 : Hid (StAt v6 g7 x) := HX5.out.later hbx HX5.out.lt
          have HY6 : Hid (StAt v6 g9 x) := HY5.out.later hbx HY5.out.lt
          have HB6 : Hid (Below w5.heap.size w5 v6) := HB5.out.trans (hbx.mono HB5.out.size)
          refine hK.out _ _ ⟨HX6.out.cells.1, HX6.out.cells.2.1, HX6.out.cells.2.2, HY6.out.cells.1, HY6.out.cells.2.1, HY6.out.cells.2.2, bytes_string (HBv.out _ HB6.out)⟩ (fun hS => ?_)
          clear hK K hbx
          refine wpAnyH_take (i := 14) (v := ?_) rfl (by kernel_rfl) (by kernel_rfl) (by kernel_rfl) (fun _ _ _ h => h) (Or.inl ⟨by rfl, ?_⟩) hS ?_
          rotate_left 1
          · intro w hSw; (try dsimp only at hSw); go_simp <;> with_reducible rfl
          simp only [List.getElem_toArray, List.getElem_cons_zero, List.getElem_cons_succ, Act.put, List.setIfInBounds_toArray, List.set_cons_zero, List.set_cons_succ]
          refine wpAnyH_take (i := 15) (v := ?_) rfl (by kernel_rfl) (by kernel_rfl) (by kernel_rfl) (fun _ _ _ h => h) (Or.inl ⟨by rfl, ?_⟩) hS ?_
          rotate_left 1
          · intro w hSw; (try dsimp only at hSw); go_simp <;> with_reducible rfl
          simp only [List.getElem_toArray, List.getElem_cons_zero, List.getElem_cons_succ, Act.put, List.setIfInBounds_toArray, List.set_cons_zero, List.set_cons_succ]
          refine wpAnyH_take (i := 16) (v := ?_) rfl (by kernel_rfl) (by kernel_rfl) (by kernel_rfl) (fun _ _ _ h => h) (Or.inl ⟨by rfl, ?_⟩) hS ?_
          rotate_left 1
          · intro w hSw; (try dsimp only at hSw); go_simp <;> with_reducible rfl
          simp only [List.getElem_toArray, List.getElem_cons_zero, List.getElem_cons_succ, Act.put, List.setIfInBounds_toArray, List.set_cons_zero, List.set_cons_succ]
          refine wpAnyH_take (i := 19) (v := ?_) rfl (by kernel_rfl) (by kernel_rfl) (by kernel_rfl) (fun _ _ _ h => h) (Or.inl ⟨by rfl, ?_⟩) hS ?_
          rotate_left 1
          · intro w hSw; (try dsimp only at hSw); go_simp <;> with_reducible rfl
          simp only [List.getElem_toArray, List.getElem_cons_zero, List.getElem_cons_succ, Act.put, List.setIfInBounds_toArray, List.set_cons_zero, List.set_cons_succ]
          refine wpAnyH_take (i := 20) (v := ?_) rfl (by kernel_rfl) (by kernel_rfl) (by kernel_rfl) (fun _ _ _ h => h) (Or.inl ⟨by rfl, ?_⟩) hS ?_
          rotate_left 1
          · intro w hSw; (try dsimp only at hSw); go_simp <;> with_reducible rfl
          simp only [List.getElem_toArray, List.getElem_cons_zero, List.getElem_cons_succ, Act.put, List.setIfInBounds_toArray, List.set_cons_zero, List.set_cons_succ]
          refine wpAnyH_ready (rs := [17]) (by kernel_rfl) (by simp) ?_
          refine AllReadyH.cons rfl (fun K hK => ?_) AllReadyH.nil
          go_simp
          refine Calls.mono (HCb.out _) ?_
          rintro e v7 ⟨vb, rfl, hby, hbx⟩
          have HX7 : Hid (StAt v7 g7 x) := HX6.out.later hbx HX6.out.lt
          have HY7 : Hid (StAt v7 g9 x) := HY6.out.later hbx HY6.out.lt
          have HB7 : Hid (Below w5.heap.size w5 v7) := HB6.out.trans (hbx.mono HB6.out.size)
          have hstr := bytes_string hby
          clear hby
          refine hK.out _ _ ⟨HX7.out.cells.1, HX7.out.cells.2.1, HX7.out.cells.2.2, HY7.out.cells.1, HY7.out.cells.2.1, HY7.out.cells.2.2, bytes_string (HBv.out _ HB7.out)⟩ (fun hS => ?_)
          clear hK K hbx
          refine wpAnyH_ready (rs := [18]) (by kernel_rfl) (by simp) ?_
          refine AllReadyH.cons rfl (fun K hK => ?_) AllReadyH.nil
          go_simp
          refine hK.out _ _ hS (fun hS => ?_)
          clear hK K hstr
          refine wpAnyH_take (i := 21) (v := ?_) rfl (by kernel_rfl) (by kernel_rfl) (by kernel_rfl) (fun _ _ _ h => h) (Or.inl ⟨by rfl, ?_⟩) hS ?_
          rotate_left 1
          · intro w hSw; (try dsimp only at hSw); go_simp <;> with_reducible rfl
          simp only [List.getElem_toArray, List.getElem_cons_zero, List.getElem_cons_succ, Act.put, List.setIfInBounds_toArray, List.set_cons_zero, List.set_cons_succ]
          refine wpAnyH_take (i := 22) (v := ?_) rfl (by kernel_rfl) (by kernel_rfl) (by kernel_rfl) (fun _ _ _ h => h) (Or.inl ⟨by rfl, ?_⟩) hS ?_
          rotate_left 1
          · intro w hSw; (try dsimp only at hSw); go_simp <;> with_reducible rfl
          simp only [List.getElem_toArray, List.getElem_cons_zero, List.getElem_cons_succ, Act.put, List.setIfInBounds_toArray, List.set_cons_zero, List.set_cons_succ]
          refine wpAnyH_take (i := 23) (v := ?_) rfl (by kernel_rfl) (by kernel_rfl) (by kernel_rfl) (fun _ _ _ h => h) (Or.inl ⟨by rfl, ?_⟩) hS ?_
          rotate_left 1
          · intro w hSw; (try dsimp only at hSw); go_simp <;> with_reducible rfl
          simp only [List.getElem_toArray, List.getElem_cons_zero, List.getElem_cons_succ, Act.put, List.setIfInBounds_toArray, List.set_cons_zero, List.set_cons_succ]
          refine wpAnyH_take (i := 24) (v := ?_) rfl (by kernel_rfl) (by kernel_rfl) (by kernel_rfl) (fun _ _ _ h => h) (Or.inl ⟨by rfl, ?_⟩) hS ?_
          rotate_left 1
          · intro w hSw; (try dsimp only at hSw); go_simp <;> with_reducible rfl
          simp only [List.getElem_toArray, List.getElem_cons_zero, List.getElem_cons_succ, Act.put, List.setIfInBounds_toArray, List.set_cons_zero, List.set_cons_succ]
          refine wpAnyH_done (by kernel_rfl) ?_ _
          clear hS
          go_wp2
          go_roundw
          case rel => exact ⟨k + 1, by omega, by go_num, HB7.out⟩
          case measure => simp [intOf]; omega
        · refine wp_region_held_drew (S := fun w' => w'.cell? ⟨g7, 0, none⟩ = some (.int .i64 x.p) ∧ w'.cell? ⟨g7, 1, none⟩ = some (.int .i64 x.l) ∧ w'.cell? ⟨g7, 2, none⟩ = some (.int .i64 x.r) ∧ w'.cell? ⟨g9, 0, none⟩ = some (.int .i64 x.p) ∧ w'.cell? ⟨g9, 1, none⟩ = some (.int .i64 x.l) ∧ w'.cell? ⟨g9, 2, none⟩ = some (.int .i64 x.r) ∧ (convert 28 9 (.slice av lv cv)).run Try.prog w' = .ok (.string (strOfNums ys)) w') (by kernel_rfl) ⟨HX5.out.cells.1, HX5.out.cells.2.1, HX5.out.cells.2.2, HY5.out.cells.1, HY5.out.cells.2.1, HY5.out.cells.2.2, bytes_string (HBv.out _ HB5.out)⟩ (fun hS => ?_)
          generalize v4.drew = v5 at *
          refine wpAnyH_take (i := 0) (v := ?_) rfl (by kernel_rfl) (by kernel_rfl) (by kernel_rfl) (fun _ _ _ h => h) (Or.inl ⟨by rfl, ?_⟩) hS ?_
          rotate_left 1
          · intro w hSw; (try dsimp only at hSw); go_simp <;> with_reducible rfl
          simp only [List.getElem_toArray, List.getElem_cons_zero, List.getElem_cons_succ, Act.put, List.setIfInBounds_toArray, List.set_cons_zero, List.set_cons_succ]
          refine wpAnyH_take (i := 1) (v := ?_) rfl (by kernel_rfl) (by kernel_rfl) (by kernel_rfl) (fun _ _ _ h => h) (Or.inl ⟨by rfl, ?_⟩) hS ?_
          rotate_left 1
          · intro w hSw; (try dsimp only at hSw); go_simp <;> with_reducible rfl
          simp only [List.getElem_toArray, List.getElem_cons_zero, List.getElem_cons_succ, Act.put, List.setIfInBounds_toArray, List.set_cons_zero, List.set_cons_succ]
          refine wpAnyH_take (i := 2) (v := ?_) rfl (by kernel_rfl) (by kernel_rfl) (by kernel_rfl) (fun _ _ _ h => h) (Or.inl ⟨by rfl, ?_⟩) hS ?_
          rotate_left 1
          · intro w hSw; (try dsimp only at hSw); go_simp <;> with_reducible rfl
          simp only [List.getElem_toArray, List.getElem_cons_zero, List.getElem_cons_succ, Act.put, List.setIfInBounds_toArray, List.set_cons_zero, List.set_cons_succ]
          refine wpAnyH_take (i := 3) (v := ?_) rfl (by kernel_rfl) (by kernel_rfl) (by kernel_rfl) (fun _ _ _ h => h) (Or.inl ⟨by rfl, ?_⟩) hS ?_
          rotate_left 1
          · intro w hSw; (try dsimp only at hSw); go_simp <;> with_reducible rfl
          simp only [List.getElem_toArray, List.getElem_cons_zero, List.getElem_cons_succ, Act.put, List.setIfInBounds_toArray, List.set_cons_zero, List.set_cons_succ]
          refine wpAnyH_take (i := 4) (v := ?_) rfl (by kernel_rfl) (by kernel_rfl) (by kernel_rfl) (fun _ _ _ h => h) (Or.inl ⟨by rfl, ?_⟩) hS ?_
          rotate_left 1
          · intro w hSw; (try dsimp only at hSw); go_simp <;> with_reducible rfl
          simp only [List.getElem_toArray, List.getElem_cons_zero, List.getElem_cons_succ, Act.put, List.setIfInBounds_toArray, List.set_cons_zero, List.set_cons_succ]
          refine wpAnyH_take (i := 5) (v := ?_) rfl (by kernel_rfl) (by kernel_rfl) (by kernel_rfl) (fun _ _ _ h => h) (Or.inl ⟨by rfl, ?_⟩) hS ?_
          rotate_left 1
          · intro w hSw; (try dsimp only at hSw); go_simp <;> with_reducible rfl
          simp only [List.getElem_toArray, List.getElem_cons_zero, List.getElem_cons_succ, Act.put, List.setIfInBounds_toArray, List.set_cons_zero, List.set_cons_succ]
          refine wpAnyH_take (i := 6) (v := ?_) rfl (by kernel_rfl) (by kernel_rfl) (by kernel_rfl) (fun _ _ _ h => h) (Or.inl ⟨by rfl, ?_⟩) hS ?_
          rotate_left 1
          · intro w hSw; (try dsimp only at hSw); go_simp <;> with_reducible rfl
          simp only [List.getElem_toArray, List.getElem_cons_zero, List.getElem_cons_succ, Act.put, List.setIfInBounds_toArray, List.set_cons_zero, List.set_cons_succ]
          refine wpAnyH_take (i := 7) (v := ?_) rfl (by kernel_rfl) (by kernel_rfl) (by kernel_rfl) (fun _ _ _ h => h) (Or.inl ⟨by rfl, ?_⟩) hS ?_
          rotate_left 1
          · intro w hSw; (try dsimp only at hSw); go_simp <;> with_reducible rfl
          simp only [List.getElem_toArray, List.getElem_cons_zero, List.getElem_cons_succ, Act.put, List.setIfInBounds_toArray, List.set_cons_zero, List.set_cons_succ]
          refine wpAnyH_take (i := 8) (v := ?_) rfl (by kernel_rfl) (by kernel_rfl) (by kernel_rfl) (fun _ _ _ h => h) (Or.inl ⟨by rfl, ?_⟩) hS ?_
          rotate_left 1
          · intro w hSw; (try dsimp only at hSw); go_simp <;> with_reducible rfl
          simp only [List.getElem_toArray, List.getElem_cons_zero, List.getElem_cons_succ, Act.put, List.setIfInBounds_toArray, List.set_cons_zero, List.set_cons_succ]
          refine wpAnyH_take (i := 9) (v := ?_) rfl (by kernel_rfl) (by kernel_rfl) (by kernel_rfl) (fun _ _ _ h => h) (Or.inl ⟨by rfl, ?_⟩) hS ?_
          rotate_left 1
          · intro w hSw; (try dsimp only at hSw); go_simp <;> with_reducible rfl
          simp only [List.getElem_toArray, List.getElem_cons_zero, List.getElem_cons_succ, Act.put, List.setIfInBounds_toArray, List.set_cons_zero, List.set_cons_succ]
          refine wpAnyH_take (i := 10) (v := ?_) rfl (by kernel_rfl) (by kernel_rfl) (by kernel_rfl) (fun _ _ _ h => h) (Or.inl ⟨by rfl, ?_⟩) hS ?_
          rotate_left 1
          · intro w hSw; (try dsimp only at hSw); go_simp <;> with_reducible rfl
          simp only [List.getElem_toArray, List.getElem_cons_zero, List.getElem_cons_succ, Act.put, List.setIfInBounds_toArray, List.set_cons_zero, List.set_cons_succ]
          refine wpAnyH_take (i := 11) (v := ?_) rfl (by kernel_rfl) (by kernel_rfl) (by kernel_rfl) (fun _ _ _ h => h) (Or.inl ⟨by rfl, ?_⟩) hS ?_
          rotate_left 1
          · intro w hSw; (try dsimp only at hSw); go_simp <;> with_reducible rfl
          simp only [List.getElem_toArray, List.getElem_cons_zero, List.getElem_cons_succ, Act.put, List.setIfInBounds_toArray, List.set_cons_zero, List.set_cons_succ]
          refine wpAnyH_take (i := 12) (v := _) rfl (by kernel_rfl) (by kernel_rfl) (by kernel_rfl) (fun _ _ _ h => h) (Or.inr ⟨by rfl, rfl⟩) hS ?_
          simp only [List.getElem_toArray, List.getElem_cons_zero, List.getElem_cons_succ, Act.put, List.setIfInBounds_toArray, List.set_cons_zero, List.set_cons_succ]
          refine wpAnyH_take (i := 13) (v := _) rfl (by kernel_rfl) (by kernel_rfl) (by kernel_rfl) (fun _ _ _ h => h) (Or.inr ⟨by rfl, rfl⟩) hS ?_
          simp only [List.getElem_toArray, List.getElem_cons_zero, List.getElem_cons_succ, Act.put, List.setIfInBounds_toArray, List.set_cons_zero, List.set_cons_succ]
          refine wpAnyH_take (i := 14) (v := _) rfl (by kernel_rfl) (by kernel_rfl) (by kernel_rfl) (fun _ _ _ h => h) (Or.inr ⟨by rfl, rfl⟩) hS ?_
          simp only [List.getElem_toArray, List.getElem_cons_zero, List.getElem_cons_succ, Act.put, List.setIfInBounds_toArray, List.set_cons_zero, List.set_cons_succ]
          refine wpAnyH_take (i := 15) (v := _) rfl (by kernel_rfl) (by kernel_rfl) (by kernel_rfl) (fun _ _ _ h => h) (Or.inr ⟨by rfl, rfl⟩) hS ?_
          simp only [List.getElem_toArray, List.getElem_cons_zero, List.getElem_cons_succ, Act.put, List.setIfInBounds_toArray, List.set_cons_zero, List.set_cons_succ]
          refine wpAnyH_take (i := 16) (v := _) rfl (by kernel_rfl) (by kernel_rfl) (by kernel_rfl) (fun _ _ _ h => h) (Or.inr ⟨by rfl, rfl⟩) hS ?_
          simp only [List.getElem_toArray, List.getElem_cons_zero, List.getElem_cons_succ, Act.put, List.setIfInBounds_toArray, List.set_cons_zero, List.set_cons_succ]
          refine wpAnyH_take (i := 17) (v := _) rfl (by kernel_rfl) (by kernel_rfl) (by kernel_rfl) (fun _ _ _ h => h) (Or.inr ⟨by rfl, rfl⟩) hS ?_
          simp only [List.getElem_toArray, List.getElem_cons_zero, List.getElem_cons_succ, Act.put, List.setIfInBounds_toArray, List.set_cons_zero, List.set_cons_succ]
          refine wpAnyH_take (i := 18) (v := _) rfl (by kernel_rfl) (by kernel_rfl) (by kernel_rfl) (fun _ _ _ h => h) (Or.inr ⟨by rfl, rfl⟩) hS ?_
          simp only [List.getElem_toArray, List.getElem_cons_zero, List.getElem_cons_succ, Act.put, List.setIfInBounds_toArray, List.set_cons_zero, List.set_cons_succ]
          refine wpAnyH_take (i := 19) (v := _) rfl (by kernel_rfl) (by kernel_rfl) (by kernel_rfl) (fun _ _ _ h => h) (Or.inr ⟨by rfl, rfl⟩) hS ?_
          simp only [List.getElem_toArray, List.getElem_cons_zero, List.getElem_cons_succ, Act.put, List.setIfInBounds_toArray, List.set_cons_zero, List.set_cons_succ]
          refine wpAnyH_take (i := 20) (v := _) rfl (by kernel_rfl) (by kernel_rfl) (by kernel_rfl) (fun _ _ _ h => h) (Or.inr ⟨by rfl, rfl⟩) hS ?_
          simp only [List.getElem_toArray, List.getElem_cons_zero, List.getElem_cons_succ, Act.put, List.setIfInBounds_toArray, List.set_cons_zero, List.set_cons_succ]
          refine wpAnyH_take (i := 21) (v := _) rfl (by kernel_rfl) (by kernel_rfl) (by kernel_rfl) (fun _ _ _ h => h) (Or.inr ⟨by rfl, rfl⟩) hS ?_
          simp only [List.getElem_toArray, List.getElem_cons_zero, List.getElem_cons_succ, Act.put, List.setIfInBounds_toArray, List.set_cons_zero, List.set_cons_succ]
          refine wpAnyH_take (i := 22) (v := _) rfl (by kernel_rfl) (by kernel_rfl) (by kernel_rfl) (fun _ _ _ h => h) (Or.inr ⟨by rfl, rfl⟩) hS ?_
          simp only [List.getElem_toArray, List.getElem_cons_zero, List.getElem_cons_succ, Act.put, List.setIfInBounds_toArray, List.set_cons_zero, List.set_cons_succ]
          refine wpAnyH_take (i := 23) (v := ?_) rfl (by kernel_rfl) (by kernel_rfl) (by kernel_rfl) (fun _ _ _ h => h) (Or.inl ⟨by rfl, ?_⟩) hS ?_
          rotate_left 1
          · intro w hSw; (try dsimp only at hSw); go_simp <;> with_reducible rfl
          simp only [List.getElem_toArray, List.getElem_cons_zero, List.getElem_cons_succ, Act.put, List.setIfInBounds_toArray, List.set_cons_zero, List.set_cons_succ]
          refine wpAnyH_take (i := 24) (v := ?_) rfl (by kernel_rfl) (by kernel_rfl) (by kernel_rfl) (fun _ _ _ h => h) (Or.inl ⟨by rfl, ?_⟩) hS ?_
          rotate_left 1
          · intro w hSw; (try dsimp only at hSw); go_simp <;> with_reducible rfl
          simp only [List.getElem_toArray, List.getElem_cons_zero, List.getElem_cons_succ, Act.put, List.setIfInBounds_toArray, List.set_cons_zero, List.set_cons_succ]
          refine wpAnyH_done (by kernel_rfl) ?_ _
          clear hS
          go_wp2
          go_roundw
          case rel => exact ⟨k + 1, by omega, by go_num, HB5.out⟩
          case measure => simp [intOf]; omega
      · obtain rfl : k = 3 := by omega
        have HB : Hid _ := hB
        clear hB
        go_wp2
        go_ret
        exact ⟨rfl, HBW.out.trans (HB.out.mono HBW.out.size)⟩
end Go.Proofs.Ytcgnkembfpcnnaa

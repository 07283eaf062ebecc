/-
  Walk of newsreelref1.StampBytes.
-/
import Derived.Test.YtcgnkembfpcnnaaFnStA
import Derived.Test.YtcgnkembfpcnnaaFnRefFixed
import Derived.Test.YtcgnkembfpcnnaaFnStC
namespace Go.Proofs.Ytcgnkembfpcnnaa
open Go.RowKit NumMath
open StMath (St cmpI or3)
set_option maxRecDepth 100000
set_option linter.unusedVariables false
set_option linter.unusedSimpArgs false

theorem owns_later {w w' : World} {base e s n : Nat} {v : Value} {xs : List Value} (h : w.ownsRow base e s v n xs) (hb : Below w.heap.size w w') : w'.ownsRow base e s v n xs := by
  refine ⟨h.1, ?_⟩
  rcases h.2 with h2 | ⟨g, cap, cur, h2, h3, h4, h5⟩
  · exact .inl h2
  · refine .inr ⟨g, cap, cur, h2, h3, ?_, h5⟩
    rw [hb.block g (Array.getElem?_eq_some_iff.1 h4).1]
    exact h4
theorem arr_news {w : World} {g t : Nat} {l : List Value} (h : Arr w g t l) : ∀ j u, l[j]? = some u → w.cell? ((⟨g, 0, none⟩ : Addr).add j) = some u := by
  intro j u hu
  rw [← Arr.cell h j] at hu
  by_cases hj : j = 0
  · subst hj; simpa [Addr.add] using hu
  · simpa [Addr.add, hj] using hu
theorem row_news {w : World} {base n c g : Nat} {xs : List Int} (h : w.ownsRow base 5 1 (.slice (some ⟨g, 0, none⟩) n c) n (xs.map (Value.int .u8))) : ∀ j u, (xs.map (Value.int .u8))[j]? = some u → w.cell? ((⟨g, 0, none⟩ : Addr).add j) = some u := by
  have hl := h.1
  rw [List.length_map] at hl
  have hr := own_row h n (Nat.le_refl _)
  rw [List.take_of_length_le (by omega)] at hr
  exact hr.news _ rfl

set_option maxRecDepth 100000 in
set_option maxHeartbeats 8000000 in
theorem refBytes_any (s : St) (w : World) : Calls Try.prog 13 #[stV s] w fun e w' => ∃ v, e = .returned v ∧ Bytes w' v (StMath.bytes s) ∧ Below w.heap.size w w' := by
  obtain ⟨i0, hi, hz0, hz1, hz2⟩ := info_parts Try.info5
  have HR : Hid (∀ w, _) := fun w => refRight_any s w
  cases hq : StMath.right s with
  | false =>
    rw [hq] at HR
    have HE : Hid _ := StMath.bytes_no hq
    clear hq
    obtain ⟨p, l, r⟩ := s
    unfold stV at *
    dsimp only at *
    go_enter Try.func13, Try.ntmps13
    go_wp2_with fail
    refine Calls.mono (HR.out _) ?_
    rintro e w1 ⟨rfl, hb1⟩
    have HB1 : Hid (Below w.heap.size w w1) := ((Below.refl w.heap.size w).alloc (Nat.le_refl _) _).trans (hb1.mono (by simp))
    clear hb1
    go_wp2
    go_ret
    rw [HE.out]
    exact ⟨_, rfl, bytes_nil _, HB1.out⟩
  | true =>
    rw [hq] at HR
    obtain ⟨a0, a1, b0, b1, c0, c1⟩ := StMath.right_iff.1 hq
    have HE : Hid (StMath.bytes s = fixL 6 s.p ++ (fixL 2 s.l ++ fixL 1 s.r)) := by unfold Hid StMath.bytes; rw [if_pos hq]
    clear hq
    obtain ⟨p, l, r⟩ := s
    obtain ⟨x0, e0, l0, y0⟩ : ∃ xs : List Int, Hid (fixL (held 6) p = xs) ∧ Hid (xs.length = 6) ∧ Hid (∀ c ∈ xs, 0 ≤ c ∧ c ≤ 255) := ⟨_, rfl, fixL_len 6 p, fixL_byte 6 p⟩
    obtain ⟨x1, e1, l1, y1⟩ : ∃ xs : List Int, Hid (fixL (held 2) l = xs) ∧ Hid (xs.length = 2) ∧ Hid (∀ c ∈ xs, 0 ≤ c ∧ c ≤ 255) := ⟨_, rfl, fixL_len 2 l, fixL_byte 2 l⟩
    dsimp only at *
    have HE : Hid (StMath.bytes ⟨p, l, r⟩ = (x0 ++ x1) ++ [r]) := by
      have a := e0.out
      have b := e1.out
      rw [show held 6 = 6 from rfl] at a
      rw [show held 2 = 2 from rfl] at b
      have d := HE.out
      rw [a, b, StMath.fix1 c0 (by omega)] at d
      rw [List.append_assoc]
      exact d
    unfold stV at *
    dsimp only at *
    have k0 : IntKind.u64.wrap p = p := wraps64 p a0 (by rw [p64]; omega)
    have k1 : IntKind.u64.wrap l = l := wraps64 l b0 (by rw [p64]; omega)
    have k2 : IntKind.u8.wrap r = r := by simp [IntKind.wrap, IntKind.bits, IntKind.signed]; omega
    go_enter Try.func13, Try.ntmps13
    go_wp2_with fail
    refine Calls.mono (HR.out _) ?_
    rintro e w1 ⟨rfl, hb1⟩
    have HB1 : Hid (Below w.heap.size w w1) := ((Below.refl w.heap.size w).alloc (Nat.le_refl _) _).trans (hb1.mono (by simp))
    have HA : Hid (StAt w1 w.heap.size ⟨p, l, r⟩) := (StAt.new w ⟨p, l, r⟩ rfl).later hb1 (by simp)
    clear hb1
    go_wp2
    have hs0 : w1.heap.size ≤ w1.drew.heap.size := Nat.le_refl _
    have HW0 : Hid (Below w1.heap.size w1 w1.drew) := (Below.refl _ _).drew
    refine wp_region_held_drew (S := fun w' => w'.cell? ⟨w.heap.size, 0, none⟩ = some (.int .i64 p) ∧ w'.cell? ⟨w.heap.size, 1, none⟩ = some (.int .i64 l) ∧ w'.cell? ⟨w.heap.size, 2, none⟩ = some (.int .i64 r)) (by kernel_rfl) HA.out.drew.cells (fun hS => ?_)
    refine wpAnyH_take (i := 0) (v := ?_) rfl (by kernel_rfl) (by kernel_rfl) (by kernel_rfl) (fun _ _ _ h => h) (Or.inl ⟨by rfl, ?_⟩) hS ?_
    rotate_left 1
    · intro w hSw; (try dsimp only at hSw); go_simp <;> with_reducible rfl
    simp only [List.getElem_toArray, List.getElem_cons_zero, List.getElem_cons_succ, Act.put, List.setIfInBounds_toArray, List.set_cons_zero, List.set_cons_succ]
    refine wpAnyH_take (i := 1) (v := ?_) rfl (by kernel_rfl) (by kernel_rfl) (by kernel_rfl) (fun _ _ _ h => h) (Or.inl ⟨by rfl, ?_⟩) hS ?_
    rotate_left 1
    · intro w hSw; (try dsimp only at hSw); go_simp <;> with_reducible rfl
    simp only [List.getElem_toArray, List.getElem_cons_zero, List.getElem_cons_succ, Act.put, List.setIfInBounds_toArray, List.set_cons_zero, List.set_cons_succ]
    refine wpAnyH_take (i := 2) (v := ?_) rfl (by kernel_rfl) (by kernel_rfl) (by kernel_rfl) (fun _ _ _ h => h) (Or.inl ⟨by rfl, ?_⟩) hS ?_
    rotate_left 1
    · intro w hSw; (try dsimp only at hSw); go_simp <;> with_reducible rfl
    simp only [List.getElem_toArray, List.getElem_cons_zero, List.getElem_cons_succ, Act.put, List.setIfInBounds_toArray, List.set_cons_zero, List.set_cons_succ]
    refine wpAnyH_take (i := 4) (v := ?_) rfl (by kernel_rfl) (by kernel_rfl) (by kernel_rfl) (fun _ _ _ h => h) (Or.inl ⟨by rfl, ?_⟩) hS ?_
    rotate_left 1
    · intro w hSw; (try dsimp only at hSw); go_simp <;> with_reducible rfl
    simp only [List.getElem_toArray, List.getElem_cons_zero, List.getElem_cons_succ, Act.put, List.setIfInBounds_toArray, List.set_cons_zero, List.set_cons_succ]
    refine wpAnyH_take (i := 5) (v := ?_) rfl (by kernel_rfl) (by kernel_rfl) (by kernel_rfl) (fun _ _ _ h => h) (Or.inl ⟨by rfl, ?_⟩) hS ?_
    rotate_left 1
    · intro w hSw; (try dsimp only at hSw); go_simp <;> with_reducible rfl
    simp only [List.getElem_toArray, List.getElem_cons_zero, List.getElem_cons_succ, Act.put, List.setIfInBounds_toArray, List.set_cons_zero, List.set_cons_succ]
    refine wpAnyH_take (i := 6) (v := ?_) rfl (by kernel_rfl) (by kernel_rfl) (by kernel_rfl) (fun _ _ _ h => h) (Or.inl ⟨by rfl, ?_⟩) hS ?_
    rotate_left 1
    · intro w hSw; (try dsimp only at hSw); go_simp <;> with_reducible rfl
    simp only [List.getElem_toArray, List.getElem_cons_zero, List.getElem_cons_succ, Act.put, List.setIfInBounds_toArray, List.set_cons_zero, List.set_cons_succ]
    refine wpAnyH_take (i := 9) (v := ?_) rfl (by kernel_rfl) (by kernel_rfl) (by kernel_rfl) (fun _ _ _ h => h) (Or.inl ⟨by rfl, ?_⟩) hS ?_
    rotate_left 1
    · intro w hSw; (try dsimp only at hSw); go_simp <;> with_reducible rfl
    simp only [List.getElem_toArray, List.getElem_cons_zero, List.getElem_cons_succ, Act.put, List.setIfInBounds_toArray, List.set_cons_zero, List.set_cons_succ]
    refine wpAnyH_take (i := 10) (v := ?_) rfl (by kernel_rfl) (by kernel_rfl) (by kernel_rfl) (fun _ _ _ h => h) (Or.inl ⟨by rfl, ?_⟩) hS ?_
    rotate_left 1
    · intro w hSw; (try dsimp only at hSw); go_simp <;> with_reducible rfl
    simp only [List.getElem_toArray, List.getElem_cons_zero, List.getElem_cons_succ, Act.put, List.setIfInBounds_toArray, List.set_cons_zero, List.set_cons_succ]
    refine wpAnyH_take (i := 11) (v := ?_) rfl (by kernel_rfl) (by kernel_rfl) (by kernel_rfl) (fun _ _ _ h => h) (Or.inl ⟨by rfl, ?_⟩) hS ?_
    rotate_left 1
    · intro w hSw; (try dsimp only at hSw); go_simp <;> with_reducible rfl
    simp only [List.getElem_toArray, List.getElem_cons_zero, List.getElem_cons_succ, Act.put, List.setIfInBounds_toArray, List.set_cons_zero, List.set_cons_succ]
    generalize w1.drew = v0 at *
    refine wpAnyH_ready (rs := [3, 12]) (by kernel_rfl) (by simp) ?_
    refine AllReadyH.cons rfl (fun K hK => ?_) (AllReadyH.cons rfl (fun K hK => ?_) AllReadyH.nil)
    · go_simp
      refine Calls.mono (refFixed_any p 6 _ (by omega) (by omega) (by decide) (by decide)) ?_
      rintro e v1 ⟨r0, rfl, hown, hbx⟩
      rw [e0.out, show held 6 = 6 from rfl] at hown
      obtain ⟨g0, q0, rfl, hg0, _, _⟩ := own_some hown (by decide)
      have HO0 : Hid _ := hown
      have hlt0 : g0 < v1.heap.size := (hown.lt g0 rfl).2
      clear hown
      have HW1 : Hid (Below w1.heap.size w1 v1) := HW0.out.trans (hbx.mono hs0)
      have hs1 : w1.heap.size ≤ v1.heap.size := by have := hbx.size; omega
      have hyz1 : v0.heap.size ≤ v1.heap.size := hbx.size
      refine hK.out _ _ (HA.out.later HW1.out HA.out.lt).cells (fun hS => ?_)
      clear hK K hbx
      refine wpAnyH_ready (rs := [7, 12]) (by kernel_rfl) (by simp) ?_
      refine AllReadyH.cons rfl (fun K hK => ?_) (AllReadyH.cons rfl (fun K hK => ?_) AllReadyH.nil)
      · go_simp
        refine Calls.mono (refFixed_any l 2 _ (by omega) (by omega) (by decide) (by decide)) ?_
        rintro e v2 ⟨r1, rfl, hown, hbx⟩
        rw [e1.out, show held 2 = 2 from rfl] at hown
        obtain ⟨g1, q1, rfl, hg1, _, _⟩ := own_some hown (by decide)
        have HO1 : Hid _ := hown
        clear hown
        have HO0 : Hid _ := owns_later HO0.out hbx
        have hlt0 : g0 < v2.heap.size := by have := hbx.size; omega
        have HW2 : Hid (Below w1.heap.size w1 v2) := HW1.out.trans (hbx.mono hs1)
        have hs2 : w1.heap.size ≤ v2.heap.size := by have := hbx.size; omega
        have hyz2 : v1.heap.size ≤ v2.heap.size := hbx.size
        refine hK.out _ _ (HA.out.later HW2.out HA.out.lt).cells (fun hS => ?_)
        clear hK K hbx
        refine wpAnyH_ready (rs := [8, 12]) (by kernel_rfl) (by simp) ?_
        refine AllReadyH.cons rfl (fun K hK => ?_) (AllReadyH.cons rfl (fun K hK => ?_) AllReadyH.nil)
        · refine wp_append_own _ (.tmp 9) (.tmp 13) 28 rfl _ 5 i0 (.int .u8 0) 1 1 Try.underlying28 hi hz0 hz1 hz2 rfl (by decide) _ 6 _ rfl HO0.out ⟨g1, 0, none⟩ 2 q1 (x1.map (Value.int .u8)) rfl (by rw [List.length_map, l1.out]) (row_news HO1.out) (ints_oneCell _ _) (by decide) (by decide) (by omega) ?_
          intro v8 v3 hown hgrow _
          have HW3 : Hid (Below w1.heap.size w1 v3) := HW2.out.grown hgrow hs2 (fun k hk => by have := own_ge (v := .slice (some ⟨g0, 0, none⟩) 6 q0) HO0.out k hk; omega)
          have hs3 : w1.heap.size ≤ v3.heap.size := by have := HW3.out.size; omega
          have hyz3 : v2.heap.size ≤ v3.heap.size := hgrow.size
          have HO8 : Hid _ := hown
          refine hK.out _ _ (HA.out.later HW3.out HA.out.lt).cells (fun hS => ?_)
          clear hK K hown hgrow HO0 HO1
          refine wpAnyH_ready (rs := [12]) (by kernel_rfl) (by simp) ?_
          refine AllReadyH.cons rfl (fun K hK => ?_) AllReadyH.nil
          go_simp
          have HL : Hid (Arr (v3.alloc (.cells #[.int .u8 r] 5)) v3.heap.size 5 [.int .u8 r]) := Arr.new v3 5 [.int .u8 r] rfl
          have HW4 : Hid (Below w1.heap.size w1 (v3.alloc (.cells #[.int .u8 r] 5))) := HW3.out.alloc hs3 _
          have hs4 : w1.heap.size ≤ (v3.alloc (.cells #[.int .u8 r] 5)).heap.size := by simp; omega
          have hyz4 : v3.heap.size ≤ (v3.alloc (.cells #[.int .u8 r] 5)).heap.size := by simp
          have hgL : v3.heap.size < (v3.alloc (.cells #[.int .u8 r] 5)).heap.size := by simp
          have HO8 : Hid _ := World.ownsRow.alloc HO8.out (.cells #[.int .u8 r] 5)
          refine hK.out _ _ (HA.out.later HW4.out HA.out.lt).cells (fun hS => ?_)
          clear hK K
          generalize v3.alloc (.cells #[.int .u8 r] 5) = v4 at *
          generalize v3.heap.size = gL at *
          refine wpAnyH_ready (rs := [13]) (by kernel_rfl) (by simp) ?_
          refine AllReadyH.cons rfl (fun K hK => ?_) AllReadyH.nil
          refine wp_append_own _ (.tmp 14) (.tmp 18) 28 rfl _ 5 i0 (.int .u8 0) 1 1 Try.underlying28 hi hz0 hz1 hz2 rfl (by decide) v8 _ _ rfl HO8.out ⟨gL, 0, none⟩ 1 1 [.int .u8 r] rfl rfl (arr_news HL.out) (one_cell _ _) (by decide) (by decide) (by omega) ?_
          intro v9 v5 hown hgrow _
          have HW5 : Hid (Below w1.heap.size w1 v5) := HW4.out.grown hgrow hs4 (fun k hk => by have := own_ge HO8.out k hk; omega)
          obtain ⟨bX, HOX⟩ : ∃ bX, Hid (v5.ownsRow bX 5 1 v9 (6 + 2 + 1) (((x0 ++ x1) ++ [r]).map (Value.int .u8))) := ⟨_, by show World.ownsRow _ _ _ _ _ _ _; rw [List.map_append, List.map_append]; exact hown⟩
          refine hK.out _ _ (HA.out.later HW5.out HA.out.lt).cells (fun hS => ?_)
          clear hK K hown hgrow
          refine wpAnyH_take (i := 14) (v := ?_) rfl (by kernel_rfl) (by kernel_rfl) (by kernel_rfl) (fun _ _ _ h => h) (Or.inl ⟨by rfl, ?_⟩) hS ?_
          rotate_left 1
          · intro w hSw; (try dsimp only at hSw); go_simp <;> with_reducible rfl
          simp only [List.getElem_toArray, List.getElem_cons_zero, List.getElem_cons_succ, Act.put, List.setIfInBounds_toArray, List.set_cons_zero, List.set_cons_succ]
          refine wpAnyH_done (by kernel_rfl) ?_ _
          go_wp2
          go_ret
          rw [HE.out]
          exact ⟨_, rfl, own_bytes HOX.out (bytes_append (bytes_append y0.out y1.out) (by intro c hc; simp at hc; omega)), HB1.out.trans (HW5.out.mono HB1.out.size)⟩
        · go_simp
          have HL : Hid (Arr (v2.alloc (.cells #[.int .u8 r] 5)) v2.heap.size 5 [.int .u8 r]) := Arr.new v2 5 [.int .u8 r] rfl
          have HW3 : Hid (Below w1.heap.size w1 (v2.alloc (.cells #[.int .u8 r] 5))) := HW2.out.alloc hs2 _
          have hs3 : w1.heap.size ≤ (v2.alloc (.cells #[.int .u8 r] 5)).heap.size := by simp; omega
          have hyz3 : v2.heap.size ≤ (v2.alloc (.cells #[.int .u8 r] 5)).heap.size := by simp
          have hgL : v2.heap.size < (v2.alloc (.cells #[.int .u8 r] 5)).heap.size := by simp
          have HO0 : Hid _ := World.ownsRow.alloc HO0.out (.cells #[.int .u8 r] 5)
          have hne : v2.heap.size ≠ g0 := by omega
          have hlt0 : g0 < (v2.alloc (.cells #[.int .u8 r] 5)).heap.size := by simp; omega
          have HO1 : Hid _ := World.ownsRow.alloc HO1.out (.cells #[.int .u8 r] 5)
          refine hK.out _ _ (HA.out.later HW3.out HA.out.lt).cells (fun hS => ?_)
          clear hK K
          generalize v2.alloc (.cells #[.int .u8 r] 5) = v3 at *
          generalize v2.heap.size = gL at *
          refine wpAnyH_ready (rs := [8]) (by kernel_rfl) (by simp) ?_
          refine AllReadyH.cons rfl (fun K hK => ?_) AllReadyH.nil
          refine wp_append_own _ (.tmp 9) (.tmp 13) 28 rfl _ 5 i0 (.int .u8 0) 1 1 Try.underlying28 hi hz0 hz1 hz2 rfl (by decide) _ 6 _ rfl HO0.out ⟨g1, 0, none⟩ 2 q1 (x1.map (Value.int .u8)) rfl (by rw [List.length_map, l1.out]) (row_news HO1.out) (ints_oneCell _ _) (by decide) (by decide) (by omega) ?_
          intro v8 v4 hown hgrow _
          have HW4 : Hid (Below w1.heap.size w1 v4) := HW3.out.grown hgrow hs3 (fun k hk => by have := own_ge (v := .slice (some ⟨g0, 0, none⟩) 6 q0) HO0.out k hk; omega)
          have hs4 : w1.heap.size ≤ v4.heap.size := by have := HW4.out.size; omega
          have hyz4 : v3.heap.size ≤ v4.heap.size := hgrow.size
          have HO8 : Hid _ := hown
          have HL : Hid (Arr v4 gL 5 [.int .u8 r]) := by
            show Arr _ _ _ _
            unfold Arr
            rw [hgrow.block gL hgL (fun h => hne (Option.some.inj h))]
            exact HL.out
          have hgL : gL < v4.heap.size := Arr.lt HL.out
          refine hK.out _ _ (HA.out.later HW4.out HA.out.lt).cells (fun hS => ?_)
          clear hK K hown hgrow HO0 HO1
          refine wpAnyH_ready (rs := [13]) (by kernel_rfl) (by simp) ?_
          refine AllReadyH.cons rfl (fun K hK => ?_) AllReadyH.nil
          refine wp_append_own _ (.tmp 14) (.tmp 18) 28 rfl _ 5 i0 (.int .u8 0) 1 1 Try.underlying28 hi hz0 hz1 hz2 rfl (by decide) v8 _ _ rfl HO8.out ⟨gL, 0, none⟩ 1 1 [.int .u8 r] rfl rfl (arr_news HL.out) (one_cell _ _) (by decide) (by decide) (by omega) ?_
          intro v9 v5 hown hgrow _
          have HW5 : Hid (Below w1.heap.size w1 v5) := HW4.out.grown hgrow hs4 (fun k hk => by have := own_ge HO8.out k hk; omega)
          obtain ⟨bX, HOX⟩ : ∃ bX, Hid (v5.ownsRow bX 5 1 v9 (6 + 2 + 1) (((x0 ++ x1) ++ [r]).map (Value.int .u8))) := ⟨_, by show World.ownsRow _ _ _ _ _ _ _; rw [List.map_append, List.map_append]; exact hown⟩
          refine hK.out _ _ (HA.out.later HW5.out HA.out.lt).cells (fun hS => ?_)
          clear hK K hown hgrow
          refine wpAnyH_take (i := 14) (v := ?_) rfl (by kernel_rfl) (by kernel_rfl) (by kernel_rfl) (fun _ _ _ h => h) (Or.inl ⟨by rfl, ?_⟩) hS ?_
          rotate_left 1
          · intro w hSw; (try dsimp only at hSw); go_simp <;> with_reducible rfl
          simp only [List.getElem_toArray, List.getElem_cons_zero, List.getElem_cons_succ, Act.put, List.setIfInBounds_toArray, List.set_cons_zero, List.set_cons_succ]
          refine wpAnyH_done (by kernel_rfl) ?_ _
          go_wp2
          go_ret
          rw [HE.out]
          exact ⟨_, rfl, own_bytes HOX.out (bytes_append (bytes_append y0.out y1.out) (by intro c hc; simp at hc; omega)), HB1.out.trans (HW5.out.mono HB1.out.size)⟩
      · go_simp
        have HL : Hid (Arr (v1.alloc (.cells #[.int .u8 r] 5)) v1.heap.size 5 [.int .u8 r]) := Arr.new v1 5 [.int .u8 r] rfl
        have HW2 : Hid (Below w1.heap.size w1 (v1.alloc (.cells #[.int .u8 r] 5))) := HW1.out.alloc hs1 _
        have hs2 : w1.heap.size ≤ (v1.alloc (.cells #[.int .u8 r] 5)).heap.size := by simp; omega
        have hyz2 : v1.heap.size ≤ (v1.alloc (.cells #[.int .u8 r] 5)).heap.size := by simp
        have hgL : v1.heap.size < (v1.alloc (.cells #[.int .u8 r] 5)).heap.size := by simp
        have HO0 : Hid _ := World.ownsRow.alloc HO0.out (.cells #[.int .u8 r] 5)
        have hne : v1.heap.size ≠ g0 := by omega
        have hlt0 : g0 < (v1.alloc (.cells #[.int .u8 r] 5)).heap.size := by simp; omega
        refine hK.out _ _ (HA.out.later HW2.out HA.out.lt).cells (fun hS => ?_)
        clear hK K
        generalize v1.alloc (.cells #[.int .u8 r] 5) = v2 at *
        generalize v1.heap.size = gL at *
        refine wpAnyH_ready (rs := [7]) (by kernel_rfl) (by simp) ?_
        refine AllReadyH.cons rfl (fun K hK => ?_) AllReadyH.nil
        go_simp
        refine Calls.mono (refFixed_any l 2 _ (by omega) (by omega) (by decide) (by decide)) ?_
        rintro e v3 ⟨r1, rfl, hown, hbx⟩
        rw [e1.out, show held 2 = 2 from rfl] at hown
        obtain ⟨g1, q1, rfl, hg1, _, _⟩ := own_some hown (by decide)
        have HO1 : Hid _ := hown
        clear hown
        have HO0 : Hid _ := owns_later HO0.out hbx
        have hlt0 : g0 < v3.heap.size := by have := hbx.size; omega
        have HW3 : Hid (Below w1.heap.size w1 v3) := HW2.out.trans (hbx.mono hs2)
        have hs3 : w1.heap.size ≤ v3.heap.size := by have := hbx.size; omega
        have hyz3 : v2.heap.size ≤ v3.heap.size := hbx.size
        have HL : Hid (Arr v3 gL 5 [.int .u8 r]) := Arr.later HL.out hbx hgL
        have hgL : gL < v3.heap.size := by have := hbx.size; omega
        refine hK.out _ _ (HA.out.later HW3.out HA.out.lt).cells (fun hS => ?_)
        clear hK K hbx
        refine wpAnyH_ready (rs := [8]) (by kernel_rfl) (by simp) ?_
        refine AllReadyH.cons rfl (fun K hK => ?_) AllReadyH.nil
        refine wp_append_own _ (.tmp 9) (.tmp 13) 28 rfl _ 5 i0 (.int .u8 0) 1 1 Try.underlying28 hi hz0 hz1 hz2 rfl (by decide) _ 6 _ rfl HO0.out ⟨g1, 0, none⟩ 2 q1 (x1.map (Value.int .u8)) rfl (by rw [List.length_map, l1.out]) (row_news HO1.out) (ints_oneCell _ _) (by decide) (by decide) (by omega) ?_
        intro v8 v4 hown hgrow _
        have HW4 : Hid (Below w1.heap.size w1 v4) := HW3.out.grown hgrow hs3 (fun k hk => by have := own_ge (v := .slice (some ⟨g0, 0, none⟩) 6 q0) HO0.out k hk; omega)
        have hs4 : w1.heap.size ≤ v4.heap.size := by have := HW4.out.size; omega
        have hyz4 : v3.heap.size ≤ v4.heap.size := hgrow.size
        have HO8 : Hid _ := hown
        have HL : Hid (Arr v4 gL 5 [.int .u8 r]) := by
          show Arr _ _ _ _
          unfold Arr
          rw [hgrow.block gL hgL (fun h => hne (Option.some.inj h))]
          exact HL.out
        have hgL : gL < v4.heap.size := Arr.lt HL.out
        refine hK.out _ _ (HA.out.later HW4.out HA.out.lt).cells (fun hS => ?_)
        clear hK K hown hgrow HO0 HO1
        refine wpAnyH_ready (rs := [13]) (by kernel_rfl) (by simp) ?_
        refine AllReadyH.cons rfl (fun K hK => ?_) AllReadyH.nil
        refine wp_append_own _ (.tmp 14) (.tmp 18) 28 rfl _ 5 i0 (.int .u8 0) 1 1 Try.underlying28 hi hz0 hz1 hz2 rfl (by decide) v8 _ _ rfl HO8.out ⟨gL, 0, none⟩ 1 1 [.int .u8 r] rfl rfl (arr_news HL.out) (one_cell _ _) (by decide) (by decide) (by omega) ?_
        intro v9 v5 hown hgrow _
        have HW5 : Hid (Below w1.heap.size w1 v5) := HW4.out.grown hgrow hs4 (fun k hk => by have := own_ge HO8.out k hk; omega)
        obtain ⟨bX, HOX⟩ : ∃ bX, Hid (v5.ownsRow bX 5 1 v9 (6 + 2 + 1) (((x0 ++ x1) ++ [r]).map (Value.int .u8))) := ⟨_, by show World.ownsRow _ _ _ _ _ _ _; rw [List.map_append, List.map_append]; exact hown⟩
        refine hK.out _ _ (HA.out.later HW5.out HA.out.lt).cells (fun hS => ?_)
        clear hK K hown hgrow
        refine wpAnyH_take (i := 14) (v := ?_) rfl (by kernel_rfl) (by kernel_rfl) (by kernel_rfl) (fun _ _ _ h => h) (Or.inl ⟨by rfl, ?_⟩) hS ?_
        rotate_left 1
        · intro w hSw; (try dsimp only at hSw); go_simp <;> with_reducible rfl
        simp only [List.getElem_toArray, List.getElem_cons_zero, List.getElem_cons_succ, Act.put, List.setIfInBounds_toArray, List.set_cons_zero, List.set_cons_succ]
        refine wpAnyH_done (by kernel_rfl) ?_ _
        go_wp2
        go_ret
        rw [HE.out]
        exact ⟨_, rfl, own_bytes HOX.out (bytes_append (bytes_append y0.out y1.out) (by intro c hc; simp at hc; omega)), HB1.out.trans (HW5.out.mono HB1.out.size)⟩
    · go_simp
      have HL : Hid (Arr (v0.alloc (.cells #[.int .u8 r] 5)) v0.heap.size 5 [.int .u8 r]) := Arr.new v0 5 [.int .u8 r] rfl
      have HW1 : Hid (Below w1.heap.size w1 (v0.alloc (.cells #[.int .u8 r] 5))) := HW0.out.alloc hs0 _
      have hs1 : w1.heap.size ≤ (v0.alloc (.cells #[.int .u8 r] 5)).heap.size := by simp; omega
      have hyz1 : v0.heap.size ≤ (v0.alloc (.cells #[.int .u8 r] 5)).heap.size := by simp
      have hgL : v0.heap.size < (v0.alloc (.cells #[.int .u8 r] 5)).heap.size := by simp
      refine hK.out _ _ (HA.out.later HW1.out HA.out.lt).cells (fun hS => ?_)
      clear hK K
      generalize v0.alloc (.cells #[.int .u8 r] 5) = v1 at *
      generalize v0.heap.size = gL at *
      refine wpAnyH_ready (rs := [3]) (by kernel_rfl) (by simp) ?_
      refine AllReadyH.cons rfl (fun K hK => ?_) AllReadyH.nil
      go_simp
      refine Calls.mono (refFixed_any p 6 _ (by omega) (by omega) (by decide) (by decide)) ?_
      rintro e v2 ⟨r0, rfl, hown, hbx⟩
      rw [e0.out, show held 6 = 6 from rfl] at hown
      obtain ⟨g0, q0, rfl, hg0, _, _⟩ := own_some hown (by decide)
      have HO0 : Hid _ := hown
      have hlt0 : g0 < v2.heap.size := (hown.lt g0 rfl).2
      clear hown
      have HW2 : Hid (Below w1.heap.size w1 v2) := HW1.out.trans (hbx.mono hs1)
      have hs2 : w1.heap.size ≤ v2.heap.size := by have := hbx.size; omega
      have hyz2 : v1.heap.size ≤ v2.heap.size := hbx.size
      have HL : Hid (Arr v2 gL 5 [.int .u8 r]) := Arr.later HL.out hbx hgL
      have hgL : gL < v2.heap.size := by have := hbx.size; omega
      have hne : gL ≠ g0 := by omega
      refine hK.out _ _ (HA.out.later HW2.out HA.out.lt).cells (fun hS => ?_)
      clear hK K hbx
      refine wpAnyH_ready (rs := [7]) (by kernel_rfl) (by simp) ?_
      refine AllReadyH.cons rfl (fun K hK => ?_) AllReadyH.nil
      go_simp
      refine Calls.mono (refFixed_any l 2 _ (by omega) (by omega) (by decide) (by decide)) ?_
      rintro e v3 ⟨r1, rfl, hown, hbx⟩
      rw [e1.out, show held 2 = 2 from rfl] at hown
      obtain ⟨g1, q1, rfl, hg1, _, _⟩ := own_some hown (by decide)
      have HO1 : Hid _ := hown
      clear hown
      have HO0 : Hid _ := owns_later HO0.out hbx
      have hlt0 : g0 < v3.heap.size := by have := hbx.size; omega
      have HW3 : Hid (Below w1.heap.size w1 v3) := HW2.out.trans (hbx.mono hs2)
      have hs3 : w1.heap.size ≤ v3.heap.size := by have := hbx.size; omega
      have hyz3 : v2.heap.size ≤ v3.heap.size := hbx.size
      have HL : Hid (Arr v3 gL 5 [.int .u8 r]) := Arr.later HL.out hbx hgL
      have hgL : gL < v3.heap.size := by have := hbx.size; omega
      refine hK.out _ _ (HA.out.later HW3.out HA.out.lt).cells (fun hS => ?_)
      clear hK K hbx
      refine wpAnyH_ready (rs := [8]) (by kernel_rfl) (by simp) ?_
      refine AllReadyH.cons rfl (fun K hK => ?_) AllReadyH.nil
      refine wp_append_own _ (.tmp 9) (.tmp 13) 28 rfl _ 5 i0 (.int .u8 0) 1 1 Try.underlying28 hi hz0 hz1 hz2 rfl (by decide) _ 6 _ rfl HO0.out ⟨g1, 0, none⟩ 2 q1 (x1.map (Value.int .u8)) rfl (by rw [List.length_map, l1.out]) (row_news HO1.out) (ints_oneCell _ _) (by decide) (by decide) (by omega) ?_
      intro v8 v4 hown hgrow _
      have HW4 : Hid (Below w1.heap.size w1 v4) := HW3.out.grown hgrow hs3 (fun k hk => by have := own_ge (v := .slice (some ⟨g0, 0, none⟩) 6 q0) HO0.out k hk; omega)
      have hs4 : w1.heap.size ≤ v4.heap.size := by have := HW4.out.size; omega
      have hyz4 : v3.heap.size ≤ v4.heap.size := hgrow.size
      have HO8 : Hid _ := hown
      have HL : Hid (Arr v4 gL 5 [.int .u8 r]) := by
        show Arr _ _ _ _
        unfold Arr
        rw [hgrow.block gL hgL (fun h => hne (Option.some.inj h))]
        exact HL.out
      have hgL : gL < v4.heap.size := Arr.lt HL.out
      refine hK.out _ _ (HA.out.later HW4.out HA.out.lt).cells (fun hS => ?_)
      clear hK K hown hgrow HO0 HO1
      refine wpAnyH_ready (rs := [13]) (by kernel_rfl) (by simp) ?_
      refine AllReadyH.cons rfl (fun K hK => ?_) AllReadyH.nil
      refine wp_append_own _ (.tmp 14) (.tmp 18) 28 rfl _ 5 i0 (.int .u8 0) 1 1 Try.underlying28 hi hz0 hz1 hz2 rfl (by decide) v8 _ _ rfl HO8.out ⟨gL, 0, none⟩ 1 1 [.int .u8 r] rfl rfl (arr_news HL.out) (one_cell _ _) (by decide) (by decide) (by omega) ?_
      intro v9 v5 hown hgrow _
      have HW5 : Hid (Below w1.heap.size w1 v5) := HW4.out.grown hgrow hs4 (fun k hk => by have := own_ge HO8.out k hk; omega)
      obtain ⟨bX, HOX⟩ : ∃ bX, Hid (v5.ownsRow bX 5 1 v9 (6 + 2 + 1) (((x0 ++ x1) ++ [r]).map (Value.int .u8))) := ⟨_, by show World.ownsRow _ _ _ _ _ _ _; rw [List.map_append, List.map_append]; exact hown⟩
      refine hK.out _ _ (HA.out.later HW5.out HA.out.lt).cells (fun hS => ?_)
      clear hK K hown hgrow
      refine wpAnyH_take (i := 14) (v := ?_) rfl (by kernel_rfl) (by kernel_rfl) (by kernel_rfl) (fun _ _ _ h => h) (Or.inl ⟨by rfl, ?_⟩) hS ?_
      rotate_left 1
      · intro w hSw; (try dsimp only at hSw); go_simp <;> with_reducible rfl
      simp only [List.getElem_toArray, List.getElem_cons_zero, List.getElem_cons_succ, Act.put, List.setIfInBounds_toArray, List.set_cons_zero, List.set_cons_succ]
      refine wpAnyH_done (by kernel_rfl) ?_ _
      go_wp2
      go_ret
      rw [HE.out]
      exact ⟨_, rfl, own_bytes HOX.out (bytes_append (bytes_append y0.out y1.out) (by intro c hc; simp at hc; omega)), HB1.out.trans (HW5.out.mono HB1.out.size)⟩
end Go.Proofs.Ytcgnkembfpcnnaa

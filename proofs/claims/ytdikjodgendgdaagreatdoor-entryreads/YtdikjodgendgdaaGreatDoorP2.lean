/-
  FnRefEB, FnRefEE, FnRefEC, FnReads.
-/
import Derived.Test.YtdikjodgendgdaaGreatDoorQ49
import Derived.Test.YtdikjodgendgdaaGreatDoorQ23
import Derived.Test.YtdikjodgendgdaaGreatDoorP1
import Derived.Test.YtdikjodgendgdaaGreatDoorQ28
import Derived.Test.YtdikjodgendgdaaGreatDoorQ32
import Derived.Lib.AppendStr
import Derived.Test.YtdikjodgendgdaaGreatDoorQ01
import Derived.Deep.QuietTactic
namespace Go.Proofs.YtdikjodgendgdaaGreatDoor
open Go.RowKit NumMath
open EntMath (E)
set_option maxRecDepth 100000
set_option linter.unusedVariables false
set_option linter.unusedSimpArgs false

set_option maxHeartbeats 16000000 in
theorem refEntRight_any (e : E) (w : World) (hF : EFit e) :
    Calls Tryz.prog 15 #[entV e] w fun r w' => r = .returned (.bool (EntMath.right e)) ∧ Below w.heap.size w w' := by
  have HC : Hid (∀ w, _) := fun w => refEntClean_any e w hF
  have HA0 : Hid _ := EntAt.new w e
  have HB0 : Hid (Below w.heap.size w (w.alloc (.cells #[.string (strN e.feed), .string (strN e.guid), .string (strN e.title), .string (strN e.link), .string (strN e.body), .int .i64 e.time] 23))) := (Below.refl _ _).alloc (Nat.le_refl _) _
  have HR : Hid ((EntMath.clean e = (e, 0) → EntMath.right e = true) ∧ (EntMath.clean e ≠ (e, 0) → EntMath.right e = false)) := ⟨(EntMath.right_iff e).2, EntMath.right_no⟩
  have hfx := EntMath.clean_any_fit e
  rcases hcl : EntMath.clean e with ⟨x, k⟩
  rw [hcl] at HC HR hfx
  simp only at hfx
  have e1 := strN_eq hfx.f1 hF.f1
  have e2 := strN_eq hfx.f2 hF.f2
  have e3 := strN_eq hfx.f3 hF.f3
  have e4 := strN_eq hfx.f4 hF.f4
  have e5 := strN_eq hfx.f5 hF.f5
  clear hcl
  by_cases hk : 0 < k
  · have HQ : Hid (EntMath.right e = false) := by
      exact HR.out.2 (fun h => by have := (Prod.mk.inj h).2; omega)
    clear HR e1 e2 e3 e4 e5 hfx hF
    unfold entV at *
    go_enter Tryz.func15, Tryz.ntmps15
    go_wp2_with fail
    refine Calls.mono (HC.out _) ?_
    rintro r w1 ⟨rfl, hb⟩
    have HB1 : Hid _ := HB0.out.trans (hb.mono HB0.out.size)
    clear hb
    go_wp2
    go_ret
    rw [HQ.out]
    exact ⟨rfl, HB1.out.alloc HB1.out.size _⟩
  · obtain rfl : k = 0 := by omega
    clear hk
    by_cases hx : x = e
    · have HQ : Hid (EntMath.right e = true) := by
        exact HR.out.1 (by rw [hx])
      clear HR e1 e2 e3 e4 e5 hfx hF
      subst hx
      unfold entV at *
      go_enter Tryz.func15, Tryz.ntmps15
      go_wp2_with fail
      refine Calls.mono (HC.out _) ?_
      rintro r w1 ⟨rfl, hb⟩
      have HA1 : Hid _ := HA0.out.later hb HA0.out.lt
      obtain ⟨c0, c1, c2, c3, c4, c5⟩ := HA1.out.cells
      have hlt := HA1.out.lt
      have HB1 : Hid _ := HB0.out.trans (hb.mono HB0.out.size)
      clear hb HA0 HB0
      go_wp2
      go_ret
      rw [HQ.out]
      exact ⟨rfl, HB1.out.alloc HB1.out.size _⟩
    · have HQ : Hid (EntMath.right e = false) := by
        exact HR.out.2 (fun h => hx (Prod.mk.inj h).1)
      have HX : Hid _ := hx
      clear HR hfx hF hx
      unfold entV at *
      go_enter Tryz.func15, Tryz.ntmps15
      go_wp2_with fail
      refine Calls.mono (HC.out _) ?_
      rintro r w1 ⟨rfl, hb⟩
      have HA1 : Hid _ := HA0.out.later hb HA0.out.lt
      obtain ⟨c0, c1, c2, c3, c4, c5⟩ := HA1.out.cells
      have hlt := HA1.out.lt
      have HB1 : Hid _ := HB0.out.trans (hb.mono HB0.out.size)
      clear hb HA0 HB0
      go_wp2
      all_goals first
        | (go_ret; rw [HQ.out]; exact ⟨rfl, HB1.out.alloc HB1.out.size _⟩)
        | (exfalso; have hx := HX.out; rw [ent_eq_iff] at hx; simp_all)
end Go.Proofs.YtdikjodgendgdaaGreatDoor
namespace Go.Proofs.YtdikjodgendgdaaGreatDoor
open Go.RowKit NumMath
open EntMath (E takeT texts ofTexts after)
set_option maxRecDepth 100000
set_option linter.unusedVariables false
set_option linter.unusedSimpArgs false

def arr5 (l : List (List Nat)) : List Value := [.string (strN (l[0]?.getD [])), .string (strN (l[1]?.getD [])), .string (strN (l[2]?.getD [])), .string (strN (l[3]?.getD [])), .string (strN (l[4]?.getD []))]
theorem arr5_set (l : List (List Nat)) (s : List Nat) (h : l.length < 5) : (arr5 l).set l.length (.string (strN s)) = arr5 (l ++ [s]) := by
  match l, h with
  | [], _ => rfl
  | [a], _ => rfl
  | [a, b], _ => rfl
  | [a, b, c], _ => rfl
  | [a, b, c, d], _ => rfl
theorem arr5_cell (l : List (List Nat)) (h : l.length < 5) : (arr5 l)[l.length]? = some (.string (strN [])) := by
  match l, h with
  | [], _ => rfl
  | [a], _ => rfl
  | [a, b], _ => rfl
  | [a, b, c], _ => rfl
  | [a, b, c, d], _ => rfl
structure A5 (w : World) (g : Nat) (l : List (List Nat)) : Prop where
  arr : Arr w g 76 (arr5 l)
theorem slice_from8 {b off L cap m : Nat} (h : m ≤ L) (hc : L ≤ cap) (w : World) : (Instr.sliceAt 48 (.slice (some ⟨b, off, none⟩) L cap) (some (.int .i64 (m : Int))) none none).run Tryz.prog w = .ok (.slice (if cap = m then some ⟨b, off, none⟩ else some ⟨b, off + m, none⟩) (L - m) (cap - m)) w := by
  have h3 : (m : Int) ≤ (L : Int) := by omega
  have h4 : (L : Int) ≤ (cap : Int) := by omega
  go_simp

set_option maxHeartbeats 32000000 in
theorem refEntRead_any (a : Option Addr) (zs : List Int) (cap : Nat) (w : World) (hR : Rest w a zs cap) (hb : ∀ c ∈ zs, 0 ≤ c ∧ c ≤ 255) (hS : ∀ s ∈ (texts 5 zs).1, s.length ≤ 10000) :
    Calls Tryz.prog 49 #[.slice a zs.length cap] w fun r w' => r = .returned (.tuple #[entV (EntMath.read zs).1, .int .i64 ((EntMath.read zs).2 : Int)]) ∧ Below w.heap.size w w' := by
  have HR0 : Hid _ := hR
  have HB0 : Hid _ := hb
  have HS0 : Hid _ := hS
  have HA0 : Hid (EntAt ((w.alloc (.cells #[.string ⟨#[]⟩, .string ⟨#[]⟩, .string ⟨#[]⟩, .string ⟨#[]⟩, .string ⟨#[]⟩, .int .i64 0] 23)).alloc (.cells #[.string ⟨#[]⟩, .string ⟨#[]⟩, .string ⟨#[]⟩, .string ⟨#[]⟩, .string ⟨#[]⟩] 76)) w.heap.size EntMath.zero) := (EntAt.new w EntMath.zero).alloc _
  have HE0 : Hid (A5 ((w.alloc (.cells #[.string ⟨#[]⟩, .string ⟨#[]⟩, .string ⟨#[]⟩, .string ⟨#[]⟩, .string ⟨#[]⟩, .int .i64 0] 23)).alloc (.cells #[.string ⟨#[]⟩, .string ⟨#[]⟩, .string ⟨#[]⟩, .string ⟨#[]⟩, .string ⟨#[]⟩] 76)) (w.heap.size + 1) []) := ⟨Arr.new _ _ (arr5 []) (by simp)⟩
  have HBw0 : Hid (Below w.heap.size w ((w.alloc (.cells #[.string ⟨#[]⟩, .string ⟨#[]⟩, .string ⟨#[]⟩, .string ⟨#[]⟩, .string ⟨#[]⟩, .int .i64 0] 23)).alloc (.cells #[.string ⟨#[]⟩, .string ⟨#[]⟩, .string ⟨#[]⟩, .string ⟨#[]⟩, .string ⟨#[]⟩] 76))) := ((Below.refl _ _).alloc (Nat.le_refl _) _).alloc (by simp) _
  clear hR hb hS
  go_enter Tryz.func49, Tryz.ntmps49
  go_wp2
  generalize hG2 : w.heap.size + 1 = G2 at *
  have HGs : Hid (w.heap.size < G2) := by show _ < _; omega
  clear hG2
  generalize World.alloc (World.alloc w _) _ = W0 at *
  go_loopw [0, 5] (fun t0 i wr => ∃ (k : Nat) (l : List (List Nat)) (ao : Option Addr) (r : List Int) (c : Nat), k ≤ 5 ∧ i = .int .i64 (k : Int) ∧ t0 = .slice ao r.length c ∧ l.length = k ∧ A5 wr G2 l ∧ EntAt wr w.heap.size EntMath.zero ∧ Below w.heap.size w wr ∧ Rest w ao r c ∧ (∀ c ∈ r, 0 ≤ c ∧ c ≤ 255) ∧ texts 5 zs = after l (texts (5 - k) r)) (fun _ i _ => 5 - (intOf i).toNat)
  case atStart => exact ⟨0, [], a, zs, cap, by omega, rfl, rfl, rfl, HE0.out, HA0.out, HBw0.out, HR0.out, HB0.out, (EntMath.after_nil 5 zs).symm⟩
  case round =>
    clear HE0 HA0 HBw0
    obtain ⟨k, l, ao, r, c, hk, rfl, rfl, hl, hE, hA, hBw, hRr, hbr, htx⟩ := hrel
    have HTk : Hid _ := refTakeText_any ao r c wr (hRr.later hBw) hbr
    have HE : Hid _ := hE
    have HA : Hid _ := hA
    have HBw : Hid _ := hBw
    have HRr : Hid _ := hRr
    have HX : Hid _ := htx
    have HL : Hid _ := hl
    have HBr : Hid _ := hbr
    by_cases hlt : k < 5
    · have hlt5 : (k : Int) < 5 := by omega
      clear hE hA hBw hRr hbr htx hl
      go_wp2_with fail
      refine Calls.mono HTk.out ?_
      rintro e w1 ⟨hw1, hcases⟩
      rw [hw1]
      clear hw1 HTk
      rcases hcases with ⟨hc0, m, rfl, hm0, hmr, hdr⟩ | ⟨hc0, rfl⟩ | ⟨hc0, rfl⟩
      · have hrne : r ≠ [] := by intro h; rw [h] at hmr; simp at hmr; omega
        obtain ⟨b, off, hao, _⟩ := HRr.out.row.resolve_left hrne
        subst hao
        have hrc := HRr.out.len
        have hsl := slice_from8 (b := b) (off := off) hmr hrc
        have HRest : Hid (∀ ao', ao' = (if c = m then (some ⟨b, off, none⟩ : Option Addr) else some ⟨b, off + m, none⟩) → Rest w ao' (takeT r).2.1 (c - m)) := by
          intro ao' h
          have h2 : Row .u8 w (some ⟨b, off, none⟩) (r.take m ++ r.drop m) := by rw [List.take_append_drop]; exact HRr.out.row
          have h3 := Row.rest h2 (m := m) (c := c) (ao := ao') (by rw [List.length_take]; omega) (by rw [List.take_append_drop]; exact hrc) (fun hne => by rw [h, if_neg hne])
          rw [hdr] at h3
          refine ⟨h3, ?_, by have := HRr.out.lim; omega, fun hn => ?_⟩
          · rw [← hdr, List.length_drop]; omega
          · rw [h] at hn; split at hn <;> cases hn
        have HLr : Hid (r.length - m = (takeT r).2.1.length) := by show _ = _; rw [← hdr, List.length_drop]
        obtain ⟨ao', hao'⟩ : ∃ x, x = (if c = m then (some ⟨b, off, none⟩ : Option Addr) else some ⟨b, off + m, none⟩) := ⟨_, rfl⟩
        rw [← hao'] at hsl
        have HRest2 : Hid _ := HRest.out ao' hao'
        have HC0 : Hid _ := hc0
        have HED : Hid (A5 wr.drew G2 l) := ⟨Arr.drew HE.out.arr⟩
        have hcell : wr.drew.cell? ⟨G2, k, none⟩ = some (.string (strN [])) := by
          have h1 := Arr.cell HED.out.arr k
          have h2 := arr5_cell l (by have := HL.out; omega)
          rw [HL.out] at h2
          rw [h1, h2]
        have hfz := Arr.frozen HED.out.arr k
        have hltw := Arr.lt HED.out.arr
        clear hc0 hdr hrne hao' HRest hmr hrc
        generalize r.length = rl at *
        go_wp2
        refine wp_region_held_drew (S := fun _ => True) (by kernel_rfl) trivial (fun hS => ?_)
        refine wpAnyH_take (i := 0) (v := ?_) rfl (by kernel_rfl) (by kernel_rfl) (by kernel_rfl) (fun _ _ _ h => h) (Or.inl ⟨by rfl, ?_⟩) hS ?_
        rotate_left 1
        · intro w hSw; (try dsimp only at hSw); go_simp <;> with_reducible rfl
        simp only [List.getElem_toArray, List.getElem_cons_zero, List.getElem_cons_succ, Act.put, List.setIfInBounds_toArray, List.set_cons_zero, List.set_cons_succ]
        refine wpAnyH_take (i := 1) (v := ?_) rfl (by kernel_rfl) (by kernel_rfl) (by kernel_rfl) (fun _ _ _ h => h) (Or.inl ⟨by rfl, ?_⟩) hS ?_
        rotate_left 1
        · intro w hSw; (try dsimp only at hSw); go_simp <;> with_reducible rfl
        simp only [List.getElem_toArray, List.getElem_cons_zero, List.getElem_cons_succ, Act.put, List.setIfInBounds_toArray, List.set_cons_zero, List.set_cons_succ]
        refine wpAnyH_take (i := 2) (v := ?_) rfl (by kernel_rfl) (by kernel_rfl) (by kernel_rfl) (fun _ _ _ h => h) (Or.inl ⟨by rfl, ?_⟩) hS ?_
        rotate_left 1
        · intro w hSw; (try dsimp only at hSw); go_simp <;> with_reducible rfl
        simp only [List.getElem_toArray, List.getElem_cons_zero, List.getElem_cons_succ, Act.put, List.setIfInBounds_toArray, List.set_cons_zero, List.set_cons_succ]
        refine wpAnyH_take (i := 3) (v := ?_) rfl (by kernel_rfl) (by kernel_rfl) (by kernel_rfl) (fun _ _ _ h => h) (Or.inl ⟨by rfl, ?_⟩) hS ?_
        rotate_left 1
        · intro w hSw; (try dsimp only at hSw); go_simp <;> with_reducible rfl
        simp only [List.getElem_toArray, List.getElem_cons_zero, List.getElem_cons_succ, Act.put, List.setIfInBounds_toArray, List.set_cons_zero, List.set_cons_succ]
        refine wpAnyH_take (i := 4) (v := ?_) rfl (by kernel_rfl) (by kernel_rfl) (by kernel_rfl) (fun _ _ _ h => h) (Or.inl ⟨by rfl, ?_⟩) hS ?_
        rotate_left 1
        · intro w hSw; (try dsimp only at hSw); go_simp <;> with_reducible rfl
        simp only [List.getElem_toArray, List.getElem_cons_zero, List.getElem_cons_succ, Act.put, List.setIfInBounds_toArray, List.set_cons_zero, List.set_cons_succ]
        refine wpAnyH_take (i := 5) (v := ?_) rfl (by kernel_rfl) (by kernel_rfl) (by kernel_rfl) (fun _ _ _ h => h) (Or.inl ⟨by rfl, ?_⟩) hS ?_
        rotate_left 1
        · intro w hSw; (try dsimp only at hSw); go_simp <;> with_reducible rfl
        simp only [List.getElem_toArray, List.getElem_cons_zero, List.getElem_cons_succ, Act.put, List.setIfInBounds_toArray, List.set_cons_zero, List.set_cons_succ]
        refine wpAnyH_ready (rs := [6]) (by kernel_rfl) (by simp) ?_
        refine AllReadyH.cons rfl (fun K hK => ?_) AllReadyH.nil
        go_simp
        refine hK.out _ _ trivial (fun hS => ?_)
        clear hK K
        try simp only [List.getElem_toArray, List.getElem_cons_zero, List.getElem_cons_succ, Act.put, List.setIfInBounds_toArray, List.set_cons_zero, List.set_cons_succ]
        refine wpAnyH_take (i := 7) (v := ?_) rfl (by kernel_rfl) (by kernel_rfl) (by kernel_rfl) (fun _ _ _ h => h) (Or.inl ⟨by rfl, ?_⟩) hS ?_
        rotate_left 1
        · intro w hSw; (try dsimp only at hSw); go_simp <;> with_reducible rfl
        simp only [List.getElem_toArray, List.getElem_cons_zero, List.getElem_cons_succ, Act.put, List.setIfInBounds_toArray, List.set_cons_zero, List.set_cons_succ]
        refine wpAnyH_done (by kernel_rfl) ?_ _
        go_wp2
        refine ⟨⟨k + 1, l ++ [(takeT r).1], ao', (takeT r).2.1, c - m, by omega, by go_num, by rw [HLr.out], by simp [HL.out], ?_, ?_, (HBw.out.drew).setCell (by have := HGs.out; show w.heap.size ≤ G2; omega) _, HRest2.out, ?_, ?_⟩, by simp [intOf]; omega⟩
        · have h1 := Arr.set HED.out.arr k (.string (strN (takeT r).1))
          have h2 := arr5_set l (takeT r).1 (by have := HL.out; omega)
          rw [HL.out] at h2
          rw [h2] at h1
          exact ⟨h1⟩
        · exact ⟨Arr.set_other (Arr.drew HA.out.arr) _ (by have := HGs.out; show w.heap.size ≠ G2; omega) _⟩
        · exact (EntMath.takeT_one r HBr.out HC0.out).2.2.2.1
        · have h5 : 5 - k = (5 - (k + 1)) + 1 := by omega
          rw [HX.out, h5]
          exact EntMath.after_step (by rw [← HC0.out])
      · have HQ : Hid (EntMath.read zs = (EntMath.zero, 20)) := by
          show _ = _
          have h5 : 5 - k = (5 - (k + 1)) + 1 := by omega
          have h6 := HX.out
          rw [h5, EntMath.after_stop hc0 (by decide)] at h6
          unfold EntMath.read
          rw [h6]; rfl
        clear hc0
        go_wp2_with (refine wpList_store_ent rfl (.tmp 2) (.tmp 25) rfl w.heap.size EntMath.zero EntMath.zero rfl rfl HA.out ?_)
        refine ret_ent w.heap.size EntMath.zero (.int .i64 20) rfl rfl rfl (EntAt.row HA.out) rfl ⟨by rw [HQ.out]; rfl, below_setRow HBw.out (Nat.le_refl _) _⟩
      · have HQ : Hid (EntMath.read zs = (EntMath.zero, 21)) := by
          show _ = _
          have h5 : 5 - k = (5 - (k + 1)) + 1 := by omega
          have h6 := HX.out
          rw [h5, EntMath.after_stop hc0 (by decide)] at h6
          unfold EntMath.read
          rw [h6]; rfl
        clear hc0
        go_wp2_with (refine wpList_store_ent rfl (.tmp 2) (.tmp 25) rfl w.heap.size EntMath.zero EntMath.zero rfl rfl HA.out ?_)
        refine ret_ent w.heap.size EntMath.zero (.int .i64 21) rfl rfl rfl (EntAt.row HA.out) rfl ⟨by rw [HQ.out]; rfl, below_setRow HBw.out (Nat.le_refl _) _⟩
    · obtain rfl : k = 5 := by omega
      clear hk hlt
      have htx2 : texts 5 zs = (l, r, 0) := by
        rw [htx]; show after l ([], r, 0) = _
        unfold EntMath.after; rw [if_neg (by simp)]; simp
      have hrd : EntMath.read zs = EntMath.readE l r := by
        unfold EntMath.read; rw [htx2]; rfl
      have hlb := (EntMath.texts_one 5 zs HB0.out (by rw [htx2])).2.2.1
      have hls := HS0.out
      rw [htx2] at hlb hls
      simp only at hlb hls
      have hT := refTake_any ao r c wr (Row.later hRr.row hBw) hbr hRr.len hRr.lim
      have hrl := hRr.len
      have hrc := hRr.lim
      have hrci : (r.length : Int) ≤ 9223372036854775807 := by unfold maxLen at hrc; omega
      clear hE hA hBw hRr htx HX HTk hl
      rcases tak_cases r hbr with h | h | ⟨j, v, hj, hjl, hv0, hv1, h, hD⟩
      · have HQ : Hid (EntMath.read zs = (EntMath.zero, 20)) := by show _ = _; rw [hrd]; unfold EntMath.readE; rw [h]; rfl
        rw [h] at hT
        unfold takV at hT
        have HT : Hid _ := hT
        clear hT h hbr hlb hls htx2 hrd
        go_wp2_with fail
        refine Calls.mono HT.out ?_
        rintro e w1 ⟨rfl, hw1⟩
        subst w1
        go_wp2_with (refine wpList_store_ent rfl (.tmp 2) (.tmp 41) rfl w.heap.size EntMath.zero EntMath.zero rfl rfl HA.out ?_)
        refine ret_ent w.heap.size EntMath.zero (.int .i64 20) rfl rfl rfl (EntAt.row HA.out) rfl ⟨by rw [HQ.out]; rfl, below_setRow HBw.out (Nat.le_refl _) _⟩
      · have HQ : Hid (EntMath.read zs = (EntMath.zero, 21)) := by show _ = _; rw [hrd]; unfold EntMath.readE; rw [h]; rfl
        rw [h] at hT
        unfold takV at hT
        have HT : Hid _ := hT
        clear hT h hbr hlb hls htx2 hrd
        go_wp2_with fail
        refine Calls.mono HT.out ?_
        rintro e w1 ⟨rfl, hw1⟩
        subst w1
        go_wp2_with (refine wpList_store_ent rfl (.tmp 2) (.tmp 41) rfl w.heap.size EntMath.zero EntMath.zero rfl rfl HA.out ?_)
        refine ret_ent w.heap.size EntMath.zero (.int .i64 21) rfl rfl rfl (EntAt.row HA.out) rfl ⟨by rw [HQ.out]; rfl, below_setRow HBw.out (Nat.le_refl _) _⟩
      · obtain ⟨n, hn⟩ : ∃ n, n = j + 1 := ⟨_, rfl⟩
        obtain ⟨m, hm⟩ : ∃ m : Nat, v = (m : Int) := ⟨v.toNat, by omega⟩
        subst hm
        rw [show (j : Int) + 1 = (n : Int) by omega] at h
        rw [h] at hT
        unfold takV at hT
        have HT : Hid _ := hT
        have hrd2 : EntMath.read zs = if 281474976710655 < (m : Int) ∨ (n : Int) < (r.length : Int) then (EntMath.zero, 21) else if EntMath.right (ofTexts l (m : Int)) = true then (ofTexts l (m : Int), 0) else (EntMath.zero, 21) := by
          rw [hrd]; unfold EntMath.readE; rw [h]; simp
        have HRd : Hid _ := hrd2
        obtain ⟨rl, hrll⟩ : ∃ rl, rl = r.length := ⟨_, rfl⟩
        rw [← hrll] at HT hrl hrci HRd hjl ⊢
        have hnn : n ≤ rl := by omega
        have HLB : Hid _ := hlb
        have HLS : Hid _ := hls
        clear hT h hbr hlb hls htx2 hrd hrd2 hD hn hjl hj hrll
        by_cases hbig : 281474976710655 < (m : Int)
        · have HQ : Hid (EntMath.read zs = (EntMath.zero, 21)) := by show _ = _; rw [HRd.out, if_pos (.inl hbig)]
          clear HRd
          go_wp2_with fail
          refine Calls.mono HT.out ?_
          rintro e w1 ⟨rfl, hww⟩
          subst w1
          go_wp2_with (refine wpList_store_ent rfl (.tmp 2) (.tmp 51) rfl w.heap.size EntMath.zero EntMath.zero rfl rfl HA.out ?_)
          refine ret_ent w.heap.size EntMath.zero (.int .i64 21) rfl rfl rfl (EntAt.row HA.out) rfl ⟨by rw [HQ.out]; rfl, below_setRow HBw.out (Nat.le_refl _) _⟩
        · have hsm : (m : Int) ≤ 281474976710655 := by omega
          by_cases hltn : n < rl
          · have HQ : Hid (EntMath.read zs = (EntMath.zero, 21)) := by show _ = _; rw [HRd.out, if_pos (by right; omega)]
            clear HRd hbig
            go_wp2_with fail
            refine Calls.mono HT.out ?_
            rintro e w1 ⟨rfl, hww⟩
            subst w1
            go_wp2_with (refine wpList_store_ent rfl (.tmp 2) (.tmp 51) rfl w.heap.size EntMath.zero EntMath.zero rfl rfl HA.out ?_)
            refine ret_ent w.heap.size EntMath.zero (.int .i64 21) rfl rfl rfl (EntAt.row HA.out) rfl ⟨by rw [HQ.out]; rfl, below_setRow HBw.out (Nat.le_refl _) _⟩
          · have hge : (rl : Int) ≤ (n : Int) := by omega
            have hge2 : rl ≤ n := by omega
            have hwm : IntKind.i64.wrap (m : Int) = (m : Int) := by rw [IntKind.wrap_i64]; omega
            have hfit := ofTexts_fit (v := (m : Int)) HLB.out HLS.out (by omega) (by omega)
            have HRi : Hid (∀ w, Calls Tryz.prog 15 #[.agg #[.string (strN (ofTexts l (m : Int)).feed), .string (strN (ofTexts l (m : Int)).guid), .string (strN (ofTexts l (m : Int)).title), .string (strN (ofTexts l (m : Int)).link), .string (strN (ofTexts l (m : Int)).body), .int .i64 (m : Int)]] w fun r w' => r = .returned (.bool (EntMath.right (ofTexts l (m : Int)))) ∧ Below w.heap.size w w') := fun w => refEntRight_any (ofTexts l (m : Int)) w hfit
            have HRd2 : Hid _ := HRd.out.trans (if_neg (by omega))
            have c0 : wr.cell? ⟨G2, 0, none⟩ = some (.string (strN (ofTexts l (m : Int)).feed)) := Arr.cell HE.out.arr 0
            have c1 : wr.cell? ⟨G2, 1, none⟩ = some (.string (strN (ofTexts l (m : Int)).guid)) := Arr.cell HE.out.arr 1
            have c2 : wr.cell? ⟨G2, 2, none⟩ = some (.string (strN (ofTexts l (m : Int)).title)) := Arr.cell HE.out.arr 2
            have c3 : wr.cell? ⟨G2, 3, none⟩ = some (.string (strN (ofTexts l (m : Int)).link)) := Arr.cell HE.out.arr 3
            have c4 : wr.cell? ⟨G2, 4, none⟩ = some (.string (strN (ofTexts l (m : Int)).body)) := Arr.cell HE.out.arr 4
            have hltG := Arr.lt HE.out.arr
            have HX2 : Hid (EntAt (wr.alloc (.cells #[.string (strN (ofTexts l (m : Int)).feed), .string (strN (ofTexts l (m : Int)).guid), .string (strN (ofTexts l (m : Int)).title), .string (strN (ofTexts l (m : Int)).link), .string (strN (ofTexts l (m : Int)).body), .int .i64 (m : Int)] 23)) wr.heap.size (ofTexts l (m : Int))) := EntAt.new wr (ofTexts l (m : Int))
            have HA2 : Hid (EntAt (wr.alloc (.cells #[.string (strN (ofTexts l (m : Int)).feed), .string (strN (ofTexts l (m : Int)).guid), .string (strN (ofTexts l (m : Int)).title), .string (strN (ofTexts l (m : Int)).link), .string (strN (ofTexts l (m : Int)).body), .int .i64 (m : Int)] 23)) w.heap.size EntMath.zero) := HA.out.alloc _
            have HB2 : Hid (Below w.heap.size w (wr.alloc (.cells #[.string (strN (ofTexts l (m : Int)).feed), .string (strN (ofTexts l (m : Int)).guid), .string (strN (ofTexts l (m : Int)).title), .string (strN (ofTexts l (m : Int)).link), .string (strN (ofTexts l (m : Int)).body), .int .i64 (m : Int)] 23))) := HBw.out.alloc HBw.out.size _
            clear HRd hbig hltn hfit
            generalize ofTexts l (m : Int) = x at *
            go_wp2_with fail
            refine Calls.mono HT.out ?_
            rintro e w1 ⟨rfl, hww⟩
            subst w1
            go_wp2_with fail
            generalize World.alloc wr _ = wx at *
            generalize wr.heap.size = gx at *
            clear c0 c1 c2 c3 c4 hltG
            cases hB : EntMath.right x with
            | false =>
              have HQ : Hid (EntMath.read zs = (EntMath.zero, 21)) := by show _ = _; rw [HRd2.out, hB]; simp
              rw [hB] at HRi
              clear hB
              refine Calls.mono (HRi.out _) ?_
              rintro e w3 ⟨rfl, hb3⟩
              have HA3 : Hid _ := HA2.out.later hb3 HA2.out.lt
              have HB3 : Hid _ := HB2.out.trans (hb3.mono HB2.out.size)
              clear hb3
              go_wp2_with (refine wpList_store_ent rfl (.tmp 2) (.tmp 68) rfl w.heap.size EntMath.zero EntMath.zero rfl rfl HA3.out ?_)
              refine ret_ent w.heap.size EntMath.zero (.int .i64 21) rfl rfl rfl (EntAt.row HA3.out) rfl ⟨by rw [HQ.out]; rfl, below_setRow HB3.out (Nat.le_refl _) _⟩
            | true =>
              have HQ : Hid (EntMath.read zs = (x, 0)) := by show _ = _; rw [HRd2.out, if_pos hB]
              rw [hB] at HRi
              clear hB
              refine Calls.mono (HRi.out _) ?_
              rintro e w3 ⟨rfl, hb3⟩
              have HA3 : Hid _ := HA2.out.later hb3 HA2.out.lt
              have HX3 : Hid _ := HX2.out.later hb3 HX2.out.lt
              have HB3 : Hid _ := HB2.out.trans (hb3.mono HB2.out.size)
              obtain ⟨d0, d1, d2, d3, d4, d5⟩ := HX3.out.cells
              have hltx := HX3.out.lt
              clear hb3
              go_wp2_with (refine wpList_store_ent rfl (.tmp 2) (.tmp 69) rfl w.heap.size EntMath.zero x rfl rfl HA3.out ?_)
              refine ret_ent w.heap.size x (.int .i64 0) rfl rfl rfl (EntAt.row HA3.out) rfl ⟨by rw [HQ.out]; rfl, below_setRow HB3.out (Nat.le_refl _) _⟩
end Go.Proofs.YtdikjodgendgdaaGreatDoor
namespace Go.Proofs.YtdikjodgendgdaaGreatDoor
open Go.RowKit NumMath
open EntMath (E textB iN bytes0)
set_option maxRecDepth 100000
set_option linter.unusedVariables false
set_option linter.unusedSimpArgs false

theorem strCells_iz (l : List Nat) (hb : ∀ c ∈ l, c < 256) : Lib.strCells (strN l) = (iN l).map (Value.int .u8) := by
  have := byteCells_strN l hb
  unfold Lib.byteCells iz at this
  unfold Lib.strCells
  exact this

theorem own_lower {w : World} {b b' e s n : Nat} {v : Value} {xs : List Value} (h : w.ownsRow b e s v n xs) (hb : b' ≤ b) : w.ownsRow b' e s v n xs :=
  ⟨h.1, h.2.imp id (fun ⟨g, cap, cur, h1, h2, h3⟩ => ⟨g, cap, cur, h1, Nat.le_trans hb h2, h3⟩)⟩

set_option maxHeartbeats 8000000 in
theorem refText_any (a : Option Addr) (zs : List Int) (cap : Nat) (s : List Nat) (w : World) (hr : Row .u8 w a zs) (hc : zs.length ≤ cap) (hm : cap ≤ maxLen) (hnil : a = none → cap = 0) (hsb : ∀ c ∈ s, c < 256) (hl : zs.length + s.length ≤ 1000000) :
    Calls Tryz.prog 25 #[.slice a zs.length cap, .string (strN s)] w fun e w' => ∃ v, e = .returned v ∧
      w'.ownsRow w.heap.size 5 1 v (zs ++ textB s).length ((zs ++ textB s).map (Value.int .u8)) ∧ Below w.heap.size w w' := by
  have hz := strN_size s
  have hwz : IntKind.u64.wrap (s.length : Int) = (s.length : Int) := by rw [IntKind.wrap_u64]; omega
  have hd := D_len (s.length : Int)
  have HP : Hid (Calls Tryz.prog 29 #[.slice a zs.length cap, .slice (some ⟨w.heap.size, 0, none⟩) 1 1] (w.alloc (.cells #[.int .u64 (s.length : Int)] 60)) fun e w' => ∃ v, e = .returned v ∧ w'.ownsRow w.heap.size 5 1 v (zs ++ D (s.length : Int)).length ((zs ++ D (s.length : Int)).map (Value.int .u8)) ∧ Below w.heap.size w w') := by
    have hbal : Below w.heap.size w (w.alloc (.cells #[.int .u64 (s.length : Int)] 60)) := (Below.refl _ _).alloc (Nat.le_refl _) _
    have := refPut_any a (some ⟨w.heap.size, 0, none⟩) zs [(s.length : Int)] cap 1 (w.alloc (.cells #[.int .u64 (s.length : Int)] 60)) (hr.later hbal) hc hm hnil (lit_row w .u64 [(s.length : Int)] 60 _ rfl) (by simp; omega) (by simp) (by decide) (by simp; omega)
    refine this.mono ?_
    rintro e w' ⟨v, rfl, hown, hb⟩
    rw [List.flatMap_cons, List.flatMap_nil, List.append_nil] at hown
    exact ⟨v, rfl, own_lower hown (by simp), hbal.trans (hb.mono hbal.size)⟩
  obtain ⟨i0, hi, hz0, hz1, hz2⟩ := info_parts Tryz.info5
  have HSC : Hid _ := strCells_iz s hsb
  have HT : Hid (zs ++ textB s = (zs ++ D (s.length : Int)) ++ iN s) := by show _ = _; unfold textB; rw [List.append_assoc]
  obtain ⟨L, hL⟩ : ∃ L, L = (zs ++ D (s.length : Int)).length := ⟨_, rfl⟩
  have hLl : L ≤ 1000020 := by rw [hL]; simp; omega
  rw [← hL] at HP
  have HLn : Hid ((zs ++ textB s).length = L + s.length) := by show _ = _; rw [HT.out, List.length_append, ← hL, EntMath.iN_len]
  clear hL hr hc hm hnil hsb hd
  generalize zs ++ D (s.length : Int) = Y at *
  generalize zs.length = zl at *
  go_enter Tryz.func25, Tryz.ntmps25
  go_wp2_with fail
  refine Calls.mono HP.out ?_
  rintro e w1 ⟨v, rfl, hown, hb⟩
  have HO : Hid _ := hown
  have HB : Hid _ := hb
  clear hown hb HP
  go_wp2_with (at_builtin; refine Lib.wpList_append_own_string _ rfl (.tmp 10) (.tmp 11) 48 9 rfl w.heap.size 5 i0 Tryz.underlying48 Tryz.underlying9 hi hz0 hz1 hz2 v L (Y.map (Value.int .u8)) rfl HO.out (strN s) rfl (by rw [hz]; unfold maxLen; omega) (by rw [hz]; omega) HB.out.size ?_; intro v2 w2 hown2 hgrow2 _; have HO2 : Hid _ := hown2; have HG2 : Hid _ := hgrow2; clear hown2 hgrow2)
  go_ret
  refine ⟨v2, rfl, ?_, HB.out.grown HG2.out HB.out.size (fun k hk => own_ge HO.out k hk)⟩
  have h := HO2.out
  rw [HSC.out, ← List.map_append, ← HT.out, hz, ← HLn.out] at h
  exact h

set_option maxHeartbeats 16000000 in
theorem refEntBytes_any (e : E) (w : World) (hF : EFit e) :
    Calls Tryz.prog 20 #[entV e] w fun r w' => ∃ v, r = .returned v ∧ Bytes w' v (EntMath.bytes e) ∧ Below w.heap.size w w' := by
  have HC : Hid (∀ w, _) := fun w => refEntRight_any e w hF
  have HA0 : Hid _ := EntAt.new w e
  have HB0 : Hid (Below w.heap.size w (w.alloc (.cells #[.string (strN e.feed), .string (strN e.guid), .string (strN e.title), .string (strN e.link), .string (strN e.body), .int .i64 e.time] 23))) := (Below.refl _ _).alloc (Nat.le_refl _) _
  cases hr : EntMath.right e with
  | false =>
    have HQ : Hid (EntMath.bytes e = []) := by show _ = _; unfold EntMath.bytes; rw [hr]; rfl
    rw [hr] at HC
    clear hr hF
    unfold entV at *
    go_enter Tryz.func20, Tryz.ntmps20
    go_wp2_with fail
    refine Calls.mono (HC.out _) ?_
    rintro r w1 ⟨rfl, hb⟩
    have HB1 : Hid _ := HB0.out.trans (hb.mono HB0.out.size)
    clear hb
    go_wp2
    go_ret
    exact ⟨_, rfl, ⟨none, 0, by rw [HQ.out]; rfl, by rw [HQ.out]; exact .inl rfl, by rw [HQ.out]; simp, by rw [HQ.out]; simp, by unfold maxLen; omega, fun _ => rfl⟩, HB1.out⟩
  | true =>
    have hfit := EntMath.right_fit hr
    have HQ : Hid (EntMath.bytes e = bytes0 e) := by show _ = _; unfold EntMath.bytes; rw [if_pos hr]
    have h0 := hfit.t0
    have h1 := hfit.t1
    have hlen := (EntMath.bytes0_len hfit).2
    have HALL : Hid _ := tk_all e
    have HBy : Hid _ := EntMath.bytes0_byte hfit
    have HTF : Hid _ := T5_fit hfit
    have HMo : Hid _ := tk_mono e
    have hsum : (tk e 5).length ≤ 3340 := by have := congrArg List.length (tk_all e); simp at this; omega
    have hwt : IntKind.u64.wrap e.time = e.time := by rw [IntKind.wrap_u64]; omega
    rw [hr] at HC
    clear hr hF hfit hlen
    unfold entV at *
    go_enter Tryz.func20, Tryz.ntmps20
    go_wp2_with fail
    refine Calls.mono (HC.out _) ?_
    rintro r w1 ⟨rfl, hb⟩
    have HA1 : Hid _ := HA0.out.later hb HA0.out.lt
    have HB1 : Hid _ := HB0.out.trans (hb.mono HB0.out.size)
    obtain ⟨c0, c1, c2, c3, c4, c5⟩ := HA1.out.cells
    have hlt := HA1.out.lt
    clear hb HA0 HB0
    go_wp2
    have HG2 : Hid (Arr (w1.alloc (.cells #[.string (strN e.feed), .string (strN e.guid), .string (strN e.title), .string (strN e.link), .string (strN e.body)] 9)) w1.heap.size 9 (agg5 e).toList) := Arr.new w1 _ (agg5 e).toList rfl
    have HA2 : Hid _ := HA1.out.alloc (.cells #[.string (strN e.feed), .string (strN e.guid), .string (strN e.title), .string (strN e.link), .string (strN e.body)] 9)
    have HB2 : Hid _ := HB1.out.alloc HB1.out.size (.cells #[.string (strN e.feed), .string (strN e.guid), .string (strN e.title), .string (strN e.link), .string (strN e.body)] 9)
    clear c0 c1 c2 c3 c4 c5 HA1 HB1 hlt
    generalize w1.alloc _ = W2 at *
    generalize w1.heap.size = G4 at *
    go_loopw [3, 21] (fun o i wr => ∃ k : Nat, k ≤ 5 ∧ i = .int .i64 (k : Int) ∧ Bytes wr o (tk e k) ∧ Below W2.heap.size W2 wr) (fun _ i _ => 5 - (intOf i).toNat)
    case atStart => exact ⟨0, by omega, rfl, ⟨none, 0, rfl, .inl rfl, by simp [tk_zero], by simp [tk_zero], by unfold maxLen; omega, fun _ => rfl⟩, Below.refl _ _⟩
    case round =>
      obtain ⟨k, hk, rfl, hby, hbw⟩ := hrel
      obtain ⟨ao, co, rfl, hrow, hbb, hco, hmo, hno⟩ := hby
      have HBw : Hid _ := hbw
      have HBW : Hid (Below w.heap.size w wr) := HB2.out.trans (hbw.mono HB2.out.size)
      have HG3 : Hid (Arr wr G4 9 (agg5 e).toList) := Arr.later HG2.out hbw (Arr.lt HG2.out)
      have HA3 : Hid (EntAt wr w.heap.size e) := HA2.out.later hbw HA2.out.lt
      have hm1 := HMo.out k hk
      by_cases hltk : k < 5
      · obtain ⟨t, ht1, ht2, ht3⟩ := T5_at e k hltk
        obtain ⟨htb, htl⟩ := HTF.out t ht3
        have hcell := (Arr.cell HG3.out k).trans ht2
        have hst := tk_succ e k t ht1
        have HTx : Hid _ := refText_any ao (tk e k) co t wr hrow hco hmo hno htb (by omega)
        rw [show tk e k ++ textB t = tk e (k + 1) from hst.symm] at HTx
        have hm2 := HMo.out (k + 1) (by omega)
        have HBk : Hid (∀ c ∈ tk e (k + 1), 0 ≤ c ∧ c ≤ 255) := by
          intro c hc
          apply HBy.out
          rw [← HALL.out]
          refine List.mem_append.2 (.inl ?_)
          unfold tk at hc ⊢
          obtain ⟨x, hx, hcx⟩ := List.mem_flatMap.1 hc
          refine List.mem_flatMap.2 ⟨x, ?_, hcx⟩
          rw [List.take_of_length_le (by simp [T5])]
          exact List.mem_of_mem_take hx
        clear hbw hrow hbb hco hmo hno ht1 ht2 ht3 htb htl hst hm1
        generalize (tk e k).length = pl at *
        go_wp2_with fail
        refine Calls.mono HTx.out ?_
        rintro r w3 ⟨v, rfl, hown, hb⟩
        have HO : Hid _ := own_bytes hown HBk.out
        have HB3 : Hid _ := HBw.out.trans (hb.mono HBw.out.size)
        clear hown hb HTx
        go_wp2
        go_roundw
        case rel => exact ⟨k + 1, by omega, by go_num, HO.out, HB3.out⟩
        case measure => simp [intOf]; omega
      · obtain rfl : k = 5 := by omega
        have hc5 := HA3.out.cells.2.2.2.2.2
        have hlt5 := HA3.out.lt
        have HPu : Hid (Calls Tryz.prog 29 #[.slice ao (tk e 5).length co, .slice (some ⟨wr.heap.size, 0, none⟩) 1 1] (wr.alloc (.cells #[.int .u64 e.time] 60)) fun r w' => ∃ v, r = .returned v ∧ Bytes w' v (bytes0 e) ∧ Below wr.heap.size wr w') := by
          have hbal : Below wr.heap.size wr (wr.alloc (.cells #[.int .u64 e.time] 60)) := (Below.refl _ _).alloc (Nat.le_refl _) _
          have := refPut_any ao (some ⟨wr.heap.size, 0, none⟩) (tk e 5) [e.time] co 1 (wr.alloc (.cells #[.int .u64 e.time] 60)) (hrow.later hbal) hco hmo hno (lit_row wr .u64 [e.time] 60 _ rfl) (by simp; omega) (by simp) (by decide) (by simp; omega)
          refine this.mono ?_
          rintro r w' ⟨v, rfl, hown, hb⟩
          rw [List.flatMap_cons, List.flatMap_nil, List.append_nil, HALL.out] at hown
          exact ⟨v, rfl, own_bytes hown HBy.out, hbal.trans (hb.mono hbal.size)⟩
        clear hbw hrow hbb hco hmo hno hm1 hltk hk
        generalize (tk e 5).length = pl at *
        go_wp2_with fail
        refine Calls.mono HPu.out ?_
        rintro r w3 ⟨v, rfl, hby, hb⟩
        have HO : Hid _ := hby
        have HB3 : Hid _ := HBW.out.trans (hb.mono HBW.out.size)
        clear hby hb
        go_wp2
        go_ret
        exact ⟨_, rfl, by rw [HQ.out]; exact HO.out, HB3.out⟩
end Go.Proofs.YtdikjodgendgdaaGreatDoor
namespace Go.Proofs.YtdikjodgendgdaaGreatDoor
open Go.RowKit NumMath
open EntMath (E)
set_option maxRecDepth 100000
set_option linter.unusedVariables false
set_option linter.unusedSimpArgs false

set_option maxHeartbeats 32000000 in
theorem reads_any (a : Option Addr) (zs : List Int) (cap : Nat) (w : World) (ht : MaxLen w) (hR : Rest w a zs cap) (hb : ∀ c ∈ zs, 0 ≤ c ∧ c ≤ 255) (hl : zs.length ≤ 10000) :
    Calls Tryz.prog 27 #[.slice a zs.length cap] w fun r w' => r = .returned (.bool true) ∧ Below w.heap.size w w' := by
  have hsm := EntMath.texts_small zs hb hl
  have HR1 : Hid _ := entRead_any a zs cap w ht hR hb hsm
  have HR2 : Hid (∀ w', Below w.heap.size w w' → _) := fun w' hB => refEntRead_any a zs cap w' (hR.later hB) hb hsm
  have HT : Hid _ := ht
  have hrc := EntMath.read_code zs hb
  have hone := EntMath.read_one zs hb
  have HRest : Hid _ := hR
  have HB0 : Hid _ := hb
  clear ht hR hb hsm
  rcases hx : EntMath.read zs with ⟨x, kx⟩
  rw [hx] at HR1 HR2 hrc hone
  simp only at hone hrc
  clear hx
  unfold entV at HR1 HR2
  generalize hLL : zs.length = L at *
  have HLL : Hid _ := hLL
  clear hLL
  by_cases hk : 0 < kx
  · have hki : (0 : Int) < (kx : Int) := by omega
    have hkb : ((kx : Int) == 0) = false := by simp; omega
    have hkb2 : ((kx : Int) != 0) = true := by simp; omega
    clear hone hrc
    go_enter Tryz.func27, Tryz.ntmps27
    go_wp2_with fail
    refine Calls.mono HR1.out ?_
    rintro r w1 ⟨rfl, hb⟩
    have HX1 : Hid (EntAt (w1.alloc (.cells #[.string (strN x.feed), .string (strN x.guid), .string (strN x.title), .string (strN x.link), .string (strN x.body), .int .i64 x.time] 23)) w1.heap.size x) := EntAt.new w1 x
    have HB1 : Hid (Below w.heap.size w (w1.alloc (.cells #[.string (strN x.feed), .string (strN x.guid), .string (strN x.title), .string (strN x.link), .string (strN x.body), .int .i64 x.time] 23))) := hb.alloc hb.size _
    clear hb
    go_wp2_with fail
    generalize World.alloc w1 _ = W1 at *
    generalize w1.heap.size = g3 at *
    refine Calls.mono (HR2.out _ HB1.out) ?_
    rintro r w2 ⟨rfl, hb⟩
    have HX2 : Hid (EntAt (w2.alloc (.cells #[.string (strN x.feed), .string (strN x.guid), .string (strN x.title), .string (strN x.link), .string (strN x.body), .int .i64 x.time] 23)) g3 x) := (HX1.out.later hb HX1.out.lt).alloc _
    have HY2 : Hid (EntAt (w2.alloc (.cells #[.string (strN x.feed), .string (strN x.guid), .string (strN x.title), .string (strN x.link), .string (strN x.body), .int .i64 x.time] 23)) w2.heap.size x) := EntAt.new w2 x
    have HB2 : Hid (Below w.heap.size w (w2.alloc (.cells #[.string (strN x.feed), .string (strN x.guid), .string (strN x.title), .string (strN x.link), .string (strN x.body), .int .i64 x.time] 23))) := (HB1.out.trans (hb.mono HB1.out.size)).alloc (Nat.le_trans HB1.out.size hb.size) _
    clear hb HX1 HB1
    go_wp2
    generalize World.alloc w2 _ = W2 at *
    generalize w2.heap.size = g5 at *
    obtain ⟨c0, c1, c2, c3, c4, c5⟩ := HX2.out.cells
    obtain ⟨d0, d1, d2, d3, d4, d5⟩ := HY2.out.cells
    go_quiet (fail)
    go_wp2
    go_ret
    exact ⟨rfl, Below.drewN HB2.out _⟩
  · obtain rfl : kx = 0 := by omega
    obtain ⟨hri, hby⟩ := hone rfl
    have hfit := EFit.of (EntMath.right_fit hri)
    have HBy : Hid (∀ w, MaxLen w → _) := fun w ht => entBytes_any x w ht hfit
    rw [hby] at HBy
    unfold entV at HBy
    have hcv : ∀ w', Below w.heap.size w w' → (convert 48 9 (.slice a L cap)).run Tryz.prog w' = .ok (.string (strN (EntMath.nI zs))) w' := by
      intro w' hB
      have := row_string (cap := cap) (Row.later HRest.out.row hB)
      rw [strN_nI HB0.out, HLL.out] at this
      exact this
    have HCV : Hid _ := hcv
    clear hk hrc hone hri hby hfit hcv
    go_enter Tryz.func27, Tryz.ntmps27
    go_wp2_with fail
    refine Calls.mono HR1.out ?_
    rintro r w1 ⟨rfl, hb⟩
    have HX1 : Hid (EntAt (w1.alloc (.cells #[.string (strN x.feed), .string (strN x.guid), .string (strN x.title), .string (strN x.link), .string (strN x.body), .int .i64 x.time] 23)) w1.heap.size x) := EntAt.new w1 x
    have HB1 : Hid (Below w.heap.size w (w1.alloc (.cells #[.string (strN x.feed), .string (strN x.guid), .string (strN x.title), .string (strN x.link), .string (strN x.body), .int .i64 x.time] 23))) := hb.alloc hb.size _
    clear hb
    go_wp2_with fail
    generalize World.alloc w1 _ = W1 at *
    generalize w1.heap.size = g3 at *
    refine Calls.mono (HR2.out _ HB1.out) ?_
    rintro r w2 ⟨rfl, hb⟩
    have HX2 : Hid (EntAt (w2.alloc (.cells #[.string (strN x.feed), .string (strN x.guid), .string (strN x.title), .string (strN x.link), .string (strN x.body), .int .i64 x.time] 23)) g3 x) := (HX1.out.later hb HX1.out.lt).alloc _
    have HY2 : Hid (EntAt (w2.alloc (.cells #[.string (strN x.feed), .string (strN x.guid), .string (strN x.title), .string (strN x.link), .string (strN x.body), .int .i64 x.time] 23)) w2.heap.size x) := EntAt.new w2 x
    have HB2 : Hid (Below w.heap.size w (w2.alloc (.cells #[.string (strN x.feed), .string (strN x.guid), .string (strN x.title), .string (strN x.link), .string (strN x.body), .int .i64 x.time] 23))) := (HB1.out.trans (hb.mono HB1.out.size)).alloc (Nat.le_trans HB1.out.size hb.size) _
    clear hb HX1 HB1
    go_wp2
    generalize World.alloc w2 _ = W2 at *
    generalize w2.heap.size = g5 at *
    obtain ⟨c0, c1, c2, c3, c4, c5⟩ := HX2.out.cells
    obtain ⟨d0, d1, d2, d3, d4, d5⟩ := HY2.out.cells
    have HS : Hid (∀ w', Below W2.heap.size W2 w' → (fun w' => (w'.cell? ⟨g3, 0, none⟩ = some (.string (strN x.feed)) ∧ w'.cell? ⟨g3, 1, none⟩ = some (.string (strN x.guid)) ∧ w'.cell? ⟨g3, 2, none⟩ = some (.string (strN x.title)) ∧ w'.cell? ⟨g3, 3, none⟩ = some (.string (strN x.link)) ∧ w'.cell? ⟨g3, 4, none⟩ = some (.string (strN x.body)) ∧ w'.cell? ⟨g3, 5, none⟩ = some (.int .i64 x.time)) ∧ (w'.cell? ⟨g5, 0, none⟩ = some (.string (strN x.feed)) ∧ w'.cell? ⟨g5, 1, none⟩ = some (.string (strN x.guid)) ∧ w'.cell? ⟨g5, 2, none⟩ = some (.string (strN x.title)) ∧ w'.cell? ⟨g5, 3, none⟩ = some (.string (strN x.link)) ∧ w'.cell? ⟨g5, 4, none⟩ = some (.string (strN x.body)) ∧ w'.cell? ⟨g5, 5, none⟩ = some (.int .i64 x.time)) ∧ (convert 48 9 (.slice a L cap)).run Tryz.prog w' = .ok (.string (strN (EntMath.nI zs))) w') w') := by
      intro w' hB
      exact ⟨(HX2.out.later hB HX2.out.lt).cells, (HY2.out.later hB HY2.out.lt).cells, HCV.out w' (HB2.out.trans (hB.mono HB2.out.size))⟩
    have HTw : Hid (MaxLen W2.drew) := MaxLen.later HT.out HB2.out.drew
    clear c0 c1 c2 c3 c4 c5 d0 d1 d2 d3 d4 d5
    refine wp_region_held_drew (S := fun w' => (w'.cell? ⟨g3, 0, none⟩ = some (.string (strN x.feed)) ∧ w'.cell? ⟨g3, 1, none⟩ = some (.string (strN x.guid)) ∧ w'.cell? ⟨g3, 2, none⟩ = some (.string (strN x.title)) ∧ w'.cell? ⟨g3, 3, none⟩ = some (.string (strN x.link)) ∧ w'.cell? ⟨g3, 4, none⟩ = some (.string (strN x.body)) ∧ w'.cell? ⟨g3, 5, none⟩ = some (.int .i64 x.time)) ∧ (w'.cell? ⟨g5, 0, none⟩ = some (.string (strN x.feed)) ∧ w'.cell? ⟨g5, 1, none⟩ = some (.string (strN x.guid)) ∧ w'.cell? ⟨g5, 2, none⟩ = some (.string (strN x.title)) ∧ w'.cell? ⟨g5, 3, none⟩ = some (.string (strN x.link)) ∧ w'.cell? ⟨g5, 4, none⟩ = some (.string (strN x.body)) ∧ w'.cell? ⟨g5, 5, none⟩ = some (.int .i64 x.time)) ∧ (convert 48 9 (.slice a L cap)).run Tryz.prog w' = .ok (.string (strN (EntMath.nI zs))) w') (by kernel_rfl) (HS.out _ (Below.refl _ _).drew) (fun hS => ?_)
    refine wpAnyH_take (i := 0) (v := ?_) rfl (by kernel_rfl) (by kernel_rfl) (by kernel_rfl) (fun _ _ _ h => h) (Or.inl ⟨by rfl, ?_⟩) hS ?_
    rotate_left 1
    · intro w hSw; (try dsimp only at hSw); go_simp <;> with_reducible rfl
    simp only [List.getElem_toArray, List.getElem_cons_zero, List.getElem_cons_succ, Act.put, List.setIfInBounds_toArray, List.set_cons_zero, List.set_cons_succ]
    refine wpAnyH_take (i := 1) (v := ?_) rfl (by kernel_rfl) (by kernel_rfl) (by kernel_rfl) (fun _ _ _ h => h) (Or.inl ⟨by rfl, ?_⟩) hS ?_
    rotate_left 1
    · intro w hSw; (try dsimp only at hSw); go_simp <;> with_reducible rfl
    simp only [List.getElem_toArray, List.getElem_cons_zero, List.getElem_cons_succ, Act.put, List.setIfInBounds_toArray, List.set_cons_zero, List.set_cons_succ]
    refine wpAnyH_take (i := 2) (v := ?_) rfl (by kernel_rfl) (by kernel_rfl) (by kernel_rfl) (fun _ _ _ h => h) (Or.inl ⟨by rfl, ?_⟩) hS ?_
    rotate_left 1
    · intro w hSw; (try dsimp only at hSw); go_simp <;> with_reducible rfl
    simp only [List.getElem_toArray, List.getElem_cons_zero, List.getElem_cons_succ, Act.put, List.setIfInBounds_toArray, List.set_cons_zero, List.set_cons_succ]
    refine wpAnyH_take (i := 3) (v := ?_) rfl (by kernel_rfl) (by kernel_rfl) (by kernel_rfl) (fun _ _ _ h => h) (Or.inl ⟨by rfl, ?_⟩) hS ?_
    rotate_left 1
    · intro w hSw; (try dsimp only at hSw); go_simp <;> with_reducible rfl
    simp only [List.getElem_toArray, List.getElem_cons_zero, List.getElem_cons_succ, Act.put, List.setIfInBounds_toArray, List.set_cons_zero, List.set_cons_succ]
    refine wpAnyH_take (i := 4) (v := ?_) rfl (by kernel_rfl) (by kernel_rfl) (by kernel_rfl) (fun _ _ _ h => h) (Or.inl ⟨by rfl, ?_⟩) hS ?_
    rotate_left 1
    · intro w hSw; (try dsimp only at hSw); go_simp <;> with_reducible rfl
    simp only [List.getElem_toArray, List.getElem_cons_zero, List.getElem_cons_succ, Act.put, List.setIfInBounds_toArray, List.set_cons_zero, List.set_cons_succ]
    refine wpAnyH_take (i := 5) (v := ?_) rfl (by kernel_rfl) (by kernel_rfl) (by kernel_rfl) (fun _ _ _ h => h) (Or.inl ⟨by rfl, ?_⟩) hS ?_
    rotate_left 1
    · intro w hSw; (try dsimp only at hSw); go_simp <;> with_reducible rfl
    simp only [List.getElem_toArray, List.getElem_cons_zero, List.getElem_cons_succ, Act.put, List.setIfInBounds_toArray, List.set_cons_zero, List.set_cons_succ]
    refine wpAnyH_take (i := 6) (v := ?_) rfl (by kernel_rfl) (by kernel_rfl) (by kernel_rfl) (fun _ _ _ h => h) (Or.inl ⟨by rfl, ?_⟩) hS ?_
    rotate_left 1
    · intro w hSw; (try dsimp only at hSw); go_simp <;> with_reducible rfl
    simp only [List.getElem_toArray, List.getElem_cons_zero, List.getElem_cons_succ, Act.put, List.setIfInBounds_toArray, List.set_cons_zero, List.set_cons_succ]
    refine wpAnyH_take (i := 7) (v := ?_) rfl (by kernel_rfl) (by kernel_rfl) (by kernel_rfl) (fun _ _ _ h => h) (Or.inl ⟨by rfl, ?_⟩) hS ?_
    rotate_left 1
    · intro w hSw; (try dsimp only at hSw); go_simp <;> with_reducible rfl
    simp only [List.getElem_toArray, List.getElem_cons_zero, List.getElem_cons_succ, Act.put, List.setIfInBounds_toArray, List.set_cons_zero, List.set_cons_succ]
    refine wpAnyH_take (i := 8) (v := ?_) rfl (by kernel_rfl) (by kernel_rfl) (by kernel_rfl) (fun _ _ _ h => h) (Or.inl ⟨by rfl, ?_⟩) hS ?_
    rotate_left 1
    · intro w hSw; (try dsimp only at hSw); go_simp <;> with_reducible rfl
    simp only [List.getElem_toArray, List.getElem_cons_zero, List.getElem_cons_succ, Act.put, List.setIfInBounds_toArray, List.set_cons_zero, List.set_cons_succ]
    refine wpAnyH_take (i := 9) (v := ?_) rfl (by kernel_rfl) (by kernel_rfl) (by kernel_rfl) (fun _ _ _ h => h) (Or.inl ⟨by rfl, ?_⟩) hS ?_
    rotate_left 1
    · intro w hSw; (try dsimp only at hSw); go_simp <;> with_reducible rfl
    simp only [List.getElem_toArray, List.getElem_cons_zero, List.getElem_cons_succ, Act.put, List.setIfInBounds_toArray, List.set_cons_zero, List.set_cons_succ]
    refine wpAnyH_take (i := 10) (v := ?_) rfl (by kernel_rfl) (by kernel_rfl) (by kernel_rfl) (fun _ _ _ h => h) (Or.inl ⟨by rfl, ?_⟩) hS ?_
    rotate_left 1
    · intro w hSw; (try dsimp only at hSw); go_simp <;> with_reducible rfl
    simp only [List.getElem_toArray, List.getElem_cons_zero, List.getElem_cons_succ, Act.put, List.setIfInBounds_toArray, List.set_cons_zero, List.set_cons_succ]
    refine wpAnyH_take (i := 11) (v := ?_) rfl (by kernel_rfl) (by kernel_rfl) (by kernel_rfl) (fun _ _ _ h => h) (Or.inl ⟨by rfl, ?_⟩) hS ?_
    rotate_left 1
    · intro w hSw; (try dsimp only at hSw); go_simp <;> with_reducible rfl
    simp only [List.getElem_toArray, List.getElem_cons_zero, List.getElem_cons_succ, Act.put, List.setIfInBounds_toArray, List.set_cons_zero, List.set_cons_succ]
    refine wpAnyH_take (i := 12) (v := ?_) rfl (by kernel_rfl) (by kernel_rfl) (by kernel_rfl) (fun _ _ _ h => h) (Or.inl ⟨by rfl, ?_⟩) hS ?_
    rotate_left 1
    · intro w hSw; (try dsimp only at hSw); go_simp <;> with_reducible rfl
    simp only [List.getElem_toArray, List.getElem_cons_zero, List.getElem_cons_succ, Act.put, List.setIfInBounds_toArray, List.set_cons_zero, List.set_cons_succ]
    refine wpAnyH_take (i := 15) (v := ?_) rfl (by kernel_rfl) (by kernel_rfl) (by kernel_rfl) (fun _ _ _ h => h) (Or.inl ⟨by rfl, ?_⟩) hS ?_
    rotate_left 1
    · intro w hSw; (try dsimp only at hSw); go_simp <;> with_reducible rfl
    simp only [List.getElem_toArray, List.getElem_cons_zero, List.getElem_cons_succ, Act.put, List.setIfInBounds_toArray, List.set_cons_zero, List.set_cons_succ]
    refine wpAnyH_take (i := 16) (v := ?_) rfl (by kernel_rfl) (by kernel_rfl) (by kernel_rfl) (fun _ _ _ h => h) (Or.inl ⟨by rfl, ?_⟩) hS ?_
    rotate_left 1
    · intro w hSw; (try dsimp only at hSw); go_simp <;> with_reducible rfl
    simp only [List.getElem_toArray, List.getElem_cons_zero, List.getElem_cons_succ, Act.put, List.setIfInBounds_toArray, List.set_cons_zero, List.set_cons_succ]
    refine wpAnyH_ready (rs := [13]) (by kernel_rfl) (by simp) ?_
    refine AllReadyH.cons rfl (fun K hK => ?_) AllReadyH.nil
    go_simp
    refine Calls.mono (HBy.out _ HTw.out) ?_
    rintro r w5 ⟨v, rfl, hby, hb⟩
    obtain ⟨ab, cb, rfl, hrow, hbb, hcb, hmb, hnb⟩ := hby
    have HB5 : Hid (Below W2.heap.size W2 w5) := ((Below.refl _ _).drew).trans hb
    have hS5 := HS.out w5 HB5.out
    have hcv5 : (convert 48 9 (.slice ab L cb)).run Tryz.prog w5 = .ok (.string (strN (EntMath.nI zs))) w5 := by
      have := row_string (cap := cb) hrow
      rw [strN_nI hbb, HLL.out] at this
      exact this
    rw [HLL.out]
    refine hK.out _ _ hS5 (fun hS => ?_)
    clear hK K hb hrow hbb hcb hmb hnb
    try simp only [List.getElem_toArray, List.getElem_cons_zero, List.getElem_cons_succ, Act.put, List.setIfInBounds_toArray, List.set_cons_zero, List.set_cons_succ]
    refine wpAnyH_weaken (S2 := fun w' => w' = w5) (fun w' h => by rw [h]; exact hS5) _ _ _ _ ?_
    have hS : w5 = w5 := rfl
    have hss : ((strN (EntMath.nI zs)).toList == (strN (EntMath.nI zs)).toList) = true := by simp
    refine wpAnyH_take (i := 14) (v := ?_) rfl (by kernel_rfl) (by kernel_rfl) (by kernel_rfl) (fun _ _ _ h => h) (Or.inl ⟨by rfl, ?_⟩) hS ?_
    rotate_left 1
    · intro w hSw; (try dsimp only at hSw); go_simp <;> with_reducible rfl
    simp only [List.getElem_toArray, List.getElem_cons_zero, List.getElem_cons_succ, Act.put, List.setIfInBounds_toArray, List.set_cons_zero, List.set_cons_succ]
    refine wpAnyH_take (i := 17) (v := ?_) rfl (by kernel_rfl) (by kernel_rfl) (by kernel_rfl) (fun _ _ _ h => h) (Or.inl ⟨by rfl, ?_⟩) hS ?_
    rotate_left 1
    · intro w hSw; (try dsimp only at hSw); go_simp <;> with_reducible rfl
    simp only [List.getElem_toArray, List.getElem_cons_zero, List.getElem_cons_succ, Act.put, List.setIfInBounds_toArray, List.set_cons_zero, List.set_cons_succ]
    refine wpAnyH_take (i := 18) (v := ?_) rfl (by kernel_rfl) (by kernel_rfl) (by kernel_rfl) (fun _ _ _ h => h) (Or.inl ⟨by rfl, ?_⟩) hS ?_
    rotate_left 1
    · intro w hSw; (try dsimp only at hSw); go_simp <;> with_reducible rfl
    simp only [List.getElem_toArray, List.getElem_cons_zero, List.getElem_cons_succ, Act.put, List.setIfInBounds_toArray, List.set_cons_zero, List.set_cons_succ]
    refine wpAnyH_take (i := 19) (v := ?_) rfl (by kernel_rfl) (by kernel_rfl) (by kernel_rfl) (fun _ _ _ h => h) (Or.inl ⟨by rfl, ?_⟩) hS ?_
    rotate_left 1
    · intro w hSw; (try dsimp only at hSw); go_simp <;> with_reducible rfl
    simp only [List.getElem_toArray, List.getElem_cons_zero, List.getElem_cons_succ, Act.put, List.setIfInBounds_toArray, List.set_cons_zero, List.set_cons_succ]
    refine wpAnyH_take (i := 20) (v := ?_) rfl (by kernel_rfl) (by kernel_rfl) (by kernel_rfl) (fun _ _ _ h => h) (Or.inl ⟨by rfl, ?_⟩) hS ?_
    rotate_left 1
    · intro w hSw; (try dsimp only at hSw); go_simp <;> with_reducible rfl
    simp only [List.getElem_toArray, List.getElem_cons_zero, List.getElem_cons_succ, Act.put, List.setIfInBounds_toArray, List.set_cons_zero, List.set_cons_succ]
    refine wpAnyH_done (by kernel_rfl) ?_ _
    go_wp2
    go_ret
    exact ⟨rfl, HB2.out.trans (HB5.out.mono HB2.out.size)⟩
end Go.Proofs.YtdikjodgendgdaaGreatDoor

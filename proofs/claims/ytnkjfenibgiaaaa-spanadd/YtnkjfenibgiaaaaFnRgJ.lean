/-
  Walk of span.Join.
-/
import Derived.Test.YtnkjfenibgiaaaaFnRgA
import Derived.Test.YtnkjfenibgiaaaaFnRgQ
import Derived.Test.YtnkjfenibgiaaaaFnRgS
import Derived.Test.YtnkjfenibgiaaaaRngCopy
import Derived.OwnWalk
import Derived.Deep.Cut
namespace Go.Proofs.Ytnkjfenibgiaaaa
open Go.RowKit NumMath
open SpanMath (Rg)
set_option maxRecDepth 100000
set_option linter.unusedVariables false
set_option linter.unusedSimpArgs false

theorem cutG_zero {b N : Nat} (w : World) : (Instr.sliceAt 22 (.slice (some ⟨b, 0, none⟩) N N) none (some (.int .i64 0)) none).run Try.prog w = .ok (.slice (some ⟨b, 0, none⟩) 0 N) w := by
  have h4 : (0 : Int) ≤ (N : Int) := by omega
  go_simp
theorem grow_whole {w : World} {g : Nat} {ds : List Rg} (hA : Arr w g 24 (flatG ds)) : GRow w (some ⟨g, 0, none⟩) ds :=
  grow_of_cells (fun j u hu => by rw [Nat.zero_add, Arr.cell hA j]; exact hu)
set_option maxHeartbeats 16000000 in
theorem rgJoin_row (a1 a2 : Option Addr) (xs ys : List Rg) (c1 c2 : Nat) (w : World) (h1 : GRow w a1 xs) (h2 : GRow w a2 ys) (hc1 : xs.length ≤ c1) (hc2 : ys.length ≤ c2) (hm1 : c1 ≤ maxLen) (hm2 : c2 ≤ maxLen) (hn1 : a1 = none → c1 = 0) (hn2 : a2 = none → c2 = 0) (hf1 : ∀ r ∈ xs, SpanMath.Fit r) (hf2 : ∀ r ∈ ys, SpanMath.Fit r) (hl1 : xs.length ≤ 1000000000) (hl2 : ys.length ≤ 1000000000) :
    Calls Try.prog 19 #[.slice a1 xs.length c1, .slice a2 ys.length c2] w fun e w' => ∃ v, e = .returned v ∧ GOwn w' w.heap.size v (SpanMath.join xs ys) ∧ Below w.heap.size w w' := by
  have HX : Hid (∀ w', Below w.heap.size w w' → _) := fun w' (hB : Below w.heap.size w w') => rgRight_row a1 xs c1 w' (h1.later hB) hc1 hm1 hf1
  have HY : Hid (∀ w', Below w.heap.size w w' → _) := fun w' (hB : Below w.heap.size w w') => rgRight_row a2 ys c2 w' (h2.later hB) hc2 hm2 hf2
  unfold maxLen at hm1 hm2
  cases hqx : SpanMath.right xs with
  | false =>
    rw [hqx] at HX
    have HN : Hid (SpanMath.join xs ys = []) := by show _ = _; unfold SpanMath.join; rw [if_neg (by rw [hqx]; simp)]
    rw [HN.out]
    clear HY hqx
    generalize xs.length = n1 at *
    generalize ys.length = n2 at *
    clear h1 h2 hf1 hf2 hn1 hn2
    go_enter Try.func19, Try.ntmps19
    go_wp2_with fail
    refine Calls.mono (HX.out _ (Below.refl _ _)) ?_
    rintro e w1 ⟨rfl, hb1⟩
    have HB1 : Hid _ := hb1
    clear hb1
    go_wp2
    go_ret
    exact ⟨_, rfl, GOwn.nil _ _, HB1.out⟩
  | true =>
    rw [hqx] at HX
    cases hqy : SpanMath.right ys with
    | false =>
      rw [hqy] at HY
      have HN : Hid (SpanMath.join xs ys = []) := by show _ = _; unfold SpanMath.join; rw [if_neg (by rw [hqy]; simp)]
      rw [HN.out]
      clear hqx hqy
      generalize xs.length = n1 at *
      generalize ys.length = n2 at *
      clear h1 h2 hf1 hf2 hn1 hn2
      go_enter Try.func19, Try.ntmps19
      go_wp2_with fail
      refine Calls.mono (HX.out _ (Below.refl _ _)) ?_
      rintro e w1 ⟨rfl, hb1⟩
      have HB1 : Hid _ := hb1
      clear hb1
      go_wp2_with fail
      refine Calls.mono (HY.out _ HB1.out) ?_
      rintro e w2 ⟨rfl, hb2⟩
      have HB2 : Hid _ := HB1.out.trans (hb2.mono HB1.out.size)
      clear hb2
      go_wp2
      go_ret
      exact ⟨_, rfl, GOwn.nil _ _, HB2.out⟩
    | true =>
      rw [hqy] at HY
      have hRx := (SpanMath.right_iff xs).1 hqx
      have hRy := (SpanMath.right_iff ys).1 hqy
      obtain ⟨i0, hi, hz0, hz1, hz2⟩ := info_parts infoRg
      have HJ : Hid (∀ s : List Rg, (∀ r, r ∈ s ↔ r ∈ xs ++ ys) → s.Pairwise (fun a b => a.f ≤ b.f) → SpanMath.putTo s = SpanMath.join xs ys ∧ (∀ r ∈ s, SpanMath.ok r = true) ∧ ∀ k, SpanMath.R (SpanMath.putTo (s.take k))) := fun s h1 h2 => by
        have ho : ∀ r ∈ s, SpanMath.ok r = true := fun r hr => by
          rcases List.mem_append.1 ((h1 r).1 hr) with h | h
          · exact hRx.1 r h
          · exact hRy.1 r h
        exact ⟨SpanMath.put_is_join hRx hRy h1 h2, ho, fun k => (SpanMath.putAll_spec (s.take k) [] (fun r hr => ho r (List.mem_of_mem_take hr)) (h2.sublist (List.take_sublist k s)) SpanMath.R.nil (fun x hx => by cases hx)).1⟩
      have HG1 : Hid (∀ w', Below w.heap.size w w' → GRow w' a1 xs) := fun w' hB => h1.later hB
      have HG2 : Hid (∀ w', Below w.heap.size w w' → GRow w' a2 ys) := fun w' hB => h2.later hB
      have HLen : Hid ((xs ++ ys).length = xs.length + ys.length) := List.length_append
      obtain ⟨n1, hx1⟩ : ∃ n, n = xs.length := ⟨_, rfl⟩
      obtain ⟨n2, hx2⟩ : ∃ n, n = ys.length := ⟨_, rfl⟩
      have HNx : Hid (n1 = xs.length) := hx1
      have HNy : Hid (n2 = ys.length) := hx2
      rw [← hx1] at hc1 HX hl1 HLen ⊢
      rw [← hx2] at hc2 HY hl2 HLen ⊢
      generalize SpanMath.join xs ys = J at *
      obtain ⟨N, hN⟩ : ∃ N, N = n1 + n2 := ⟨_, rfl⟩
      rw [← hN] at HLen
      have eN : IntKind.i64.wrap ((n1 : Int) + (n2 : Int)) = (N : Int) := by rw [IntKind.wrap_i64]; omega
      have HNn : Hid (N = n1 + n2) := hN
      have hNl : N ≤ 2000000000 := by omega
      clear h1 h2 hqx hqy hf1 hf2 hRx hRy hx1 hx2 hN
      go_enter Try.func19, Try.ntmps19
      go_wp2_with fail
      refine Calls.mono (HX.out _ (Below.refl _ _)) ?_
      rintro e w1 ⟨rfl, hb1⟩
      have HB1 : Hid _ := hb1
      clear hb1
      go_wp2_with fail
      refine Calls.mono (HY.out _ HB1.out) ?_
      rintro e w2 ⟨rfl, hb2⟩
      have HB2 : Hid (Below w.heap.size w w2) := HB1.out.trans (hb2.mono HB1.out.size)
      clear hb2 HB1 HX HY
      go_upto_region 4 with (at_make; refine wpList_make_full _ rfl _ _ 22 rfl w.heap.size 24 i0 (rgV SpanMath.zero) 2 Try.underlying22 hi hz0 hz1 _ _ _ _ N rfl rfl (by first | rfl | omega) (by first | rfl | omega) (by rw [hz2]; omega) (by unfold maxLen; omega) HB2.out.size ?_; intro w3 hown3 hgrow3)
      obtain ⟨hA3, hZ⟩ := made_arrG hown3
      have HB3 : Hid (Below w.heap.size w w3) := HB2.out.grown hgrow3 HB2.out.size (fun q hq => by cases hq)
      have HBg : Hid (w.heap.size ≤ w2.heap.size) := HB2.out.size
      clear hown3 hgrow3 HB2
      generalize w2.heap.size = g at *
      generalize (madeCells (rgV SpanMath.zero).cells (N * 2)).toList = Z at *
      have hN := HNn.out
      have hcp1 := copy_first (n1 := n1) (N := N) 3 HNx.out (by omega) hA3 hZ (HG1.out w3 HB3.out) hn1 hc1
      obtain ⟨w4, hw4⟩ : ∃ w4, w4 = w3.setRow g (flatG xs ++ Z.drop (n1 * 2)).toArray := ⟨_, rfl⟩
      have HA4 : Hid (Arr w4 g 24 (flatG xs ++ Z.drop (n1 * 2))) := by rw [hw4]; exact Arr.row hA3
      have HB4 : Hid (Below w.heap.size w w4) := by rw [hw4]; exact below_setRow HB3.out HBg.out _
      rw [← hw4] at hcp1
      have hcut : ∀ w', (Instr.sliceAt 22 (.slice (some ⟨g, 0, none⟩) N N) (some (.int .i64 (n1 : Int))) none none).run Try.prog w' = _ := fun w' => cutG_from (b := g) (off := 0) (L := N) (cap := N) (p := n1) (by omega) (Nat.le_refl _) w'
      have hcp2 := copy_second (n1 := n1) (n2 := n2) (N := N) 3 HNx.out HNy.out hN HA4.out (by rw [List.length_drop, hZ]; omega) (HG2.out w4 HB4.out) hn2 hc2
      obtain ⟨at2, hat2⟩ : ∃ x : Option Addr, x = if N = n1 then some ⟨g, 0, none⟩ else some ⟨g, 0 + n1 * 2, none⟩ := ⟨_, rfl⟩
      rw [← hat2] at hcut hcp2
      obtain ⟨M, hM⟩ : ∃ M, M = N - n1 := ⟨_, rfl⟩
      rw [← hM] at hcut hcp2
      obtain ⟨w5, hw5⟩ : ∃ w5, w5 = w4.setRow g (flatG (xs ++ ys)).toArray := ⟨_, rfl⟩
      have HA5 : Hid (Arr w5 g 24 (flatG (xs ++ ys))) := by rw [hw5]; exact Arr.row HA4.out
      have HB5 : Hid (Below w.heap.size w w5) := by rw [hw5]; exact below_setRow HB4.out HBg.out _
      rw [← hw5] at hcp2
      have hso := sortRgs g w.heap.size (xs ++ ys) w5 HBg.out HA5.out (by rw [HLen.out]; omega)
      rw [HLen.out] at hso
      have HSo : Hid _ := hso
      clear hso hw4 hw5 hat2 hM hA3 hZ HA4 HB4 HA5 HB3 hi hz0 hz1 hz2 i0 hN HNx HNy HG1 HG2 HLen
      go_upto_region 5 with (fail)
      clear hcp1 hcp2 hcut
      go_wp2_with fail
      refine Calls.mono HSo.out ?_
      rintro e w6 ⟨rfl, s, hs1, hs2, hs3, hA6, hb6⟩
      have HB6 : Hid (Below w.heap.size w w6) := HB5.out.trans hb6
      obtain ⟨hj1, hj2, hj3⟩ := HJ.out s hs1 hs2
      have HA6 : Hid (Arr w6 g 24 (flatG (SpanMath.putTo (s.take 0) ++ s.drop (SpanMath.putTo (s.take 0)).length))) := by show Arr _ _ _ _; simpa [SpanMath.putTo] using hA6
      have HRt : Hid (∀ k, SpanMath.R (SpanMath.putTo (s.take k))) := hj3
      have HOk : Hid (∀ k, k < s.length → SpanMath.ok (s[k]?.getD SpanMath.zero) = true) := fun k hk => by
        rw [List.getElem?_eq_getElem hk]; exact hj2 _ (List.getElem_mem hk)
      have HPl : Hid (∀ k, k ≤ s.length → (SpanMath.putTo (s.take k)).length ≤ k) := SpanMath.putTo_len s
      have HPt : Hid (∀ k, k < s.length → SpanMath.putTo (s.take (k + 1)) = SpanMath.putM (SpanMath.putTo (s.take k)) (s[k]?.getD SpanMath.zero)) := fun k hk => SpanMath.putTo_take hk
      have HGt : Hid (∀ (js : List Rg) k, js.length ≤ k → k < s.length → (js ++ s.drop js.length)[k]?.getD SpanMath.zero = s[k]?.getD SpanMath.zero ∧ k < (js ++ s.drop js.length).length) := fun js k hk hks => by
        refine ⟨?_, by simp; omega⟩
        rw [List.getElem?_append_right hk, List.getElem?_drop, show js.length + (k - js.length) = k by omega]
      have HEn : Hid (SpanMath.putTo (s.take s.length) = J) := by show _ = _; rw [List.take_of_length_le (Nat.le_refl _)]; exact hj1
      have HPut : Hid (∀ (js : List Rg) (r : Rg) (w : World) B, B ≤ g → _ → _ → _ → _ → _) := fun js r w B hB hA hlt hok hr => put_blk s js r g B w hB hA hlt (by unfold maxLen; omega) hok hr
      have HOwn : Hid (∀ w' (js : List Rg), js.length ≤ s.length → Arr w' g 24 (flatG (js ++ s.drop js.length)) → GOwn w' w.heap.size (.slice (some ⟨g, 0, none⟩) js.length s.length) js) := fun w' js hl hA => by
        rw [flatG_append] at hA
        exact blk_ownG HBg.out hA (by rw [List.length_append, flatG_len, flatG_len, List.length_drop]; omega) hl (by unfold maxLen; omega)
      have HSn : Hid (s.length = N) := hs3
      rw [hs3] at HOk HPl HPt HGt HEn HPut HOwn
      have hcut0 : ∀ w', (Instr.sliceAt 22 (.slice (some ⟨g, 0, none⟩) N N) none (some (.int .i64 0)) none).run Try.prog w' = .ok (.slice (some ⟨g, 0, none⟩) 0 N) w' := fun w' => cutG_zero w'
      clear hs1 hs2 hs3 hA6 hb6 hj1 hj2 hj3 HJ HSo HB5
      go_wp2
      clear hcut0
      go_loopw [6, 36] (fun v i wr => ∃ k : Nat, k ≤ N ∧ i = .int .i64 k ∧ v = .slice (some ⟨g, 0, none⟩) (SpanMath.putTo (s.take k)).length N ∧ Arr wr g 24 (flatG (SpanMath.putTo (s.take k) ++ s.drop (SpanMath.putTo (s.take k)).length)) ∧ Below w.heap.size w wr) (fun _ i _ => N - (intOf i).toNat)
      case atStart => exact ⟨0, by omega, rfl, rfl, HA6.out, HB6.out⟩
      case round =>
        obtain ⟨k, hk, rfl, rfl, hA, hB⟩ := hrel
        have HA : Hid (Arr wr g 24 (flatG (SpanMath.putTo (s.take k) ++ s.drop (SpanMath.putTo (s.take k)).length))) := hA
        have HB : Hid (Below w.heap.size w wr) := hB
        clear hA hB HA6 HB6
        by_cases hkn : k < N
        · have hki : (k : Int) < (N : Int) := by omega
          have hjl := HPl.out k hk
          have HPk : Hid _ := HPt.out k hkn
          have hokk := HOk.out k hkn
          have HRk : Hid _ := HRt.out k
          obtain ⟨hg1, hg2⟩ := HGt.out _ k hjl hkn
          obtain ⟨p0, p1⟩ := GRow.cells (grow_whole HA.out) hg2
          rw [hg1] at p0 p1
          rw [Nat.zero_add] at p0 p1
          clear hg1 hg2
          generalize SpanMath.putTo (s.take k) = js at *
          generalize s[k]?.getD SpanMath.zero = d at *
          have HXn : Hid (RgAt (wr.alloc (.cells #[.int .i64 0, .int .i64 0] 24)) wr.heap.size SpanMath.zero) := RgAt.new wr SpanMath.zero rfl
          have HX1 : Hid (RgAt ((wr.alloc (.cells #[.int .i64 0, .int .i64 0] 24)).setRow wr.heap.size (rgL d).toArray) wr.heap.size d) := RgAt.row HXn.out
          have hl : Below wr.heap.size wr ((wr.alloc (.cells #[.int .i64 0, .int .i64 0] 24)).setRow wr.heap.size (rgL d).toArray) := below_setRow ((Below.refl _ _).alloc (Nat.le_refl _) _) (Nat.le_refl _) _
          have HB1 : Hid (Below w.heap.size w _) := HB.out.trans (hl.mono HB.out.size)
          have HA1 : Hid (Arr _ g 24 _) := Arr.later HA.out hl HA.out.lt
          clear hl
          go_upto_region 10 with (refine wpList_store_rg rfl (.tmp 8) (.tmp 39) rfl wr.heap.size SpanMath.zero d rfl rfl HXn.out ?_)
          clear HXn HA HB p0 p1
          generalize (wr.alloc (.cells #[.int .i64 0, .int .i64 0] 24)).setRow wr.heap.size (rgL d).toArray = w7 at *
          generalize wr.heap.size = q at *
          obtain ⟨x0, x1⟩ := HX1.out.cells
          have HP7 : Hid _ := HPut.out js d w7 w.heap.size HBg.out HA1.out (by omega) HRk.out.1 hokk
          clear HA1
          go_wp2_with fail
          refine Calls.mono HP7.out ?_
          rintro e w8 ⟨rfl, hA8, hb8⟩
          have HB8 : Hid (Below w.heap.size w w8) := HB1.out.trans hb8
          have HA8 : Hid (Arr w8 g 24 (flatG (SpanMath.putM js d ++ s.drop (SpanMath.putM js d).length))) := hA8
          clear hA8 hb8 x0 x1 HP7 HB1
          rw [← HPk.out] at HA8 ⊢
          go_wp2
          go_roundw
          case rel => exact ⟨k + 1, by omega, by go_num, rfl, HA8.out, HB8.out⟩
          case measure => simp [intOf]; omega
        · have hkk : k = N := by omega
          have hdk : decide ((k : Int) < (N : Int)) = false := by simp; omega
          subst hkk
          have HO9 : Hid _ := HOwn.out wr _ (HPl.out k hk) HA.out
          rw [HEn.out] at HO9 ⊢
          clear hkn HA
          go_wp2
          go_ret
          exact ⟨_, rfl, HO9.out, HB.out⟩
end Go.Proofs.Ytnkjfenibgiaaaa

/-
  L6Short.
-/
import Derived.Test.YtdikjodgendgdaaGreatDoorQ36
import Derived.Test.YtdikjodgendgdaaGreatDoorQ50
import Derived.Test.YtdikjodgendgdaaGreatDoorQ01
namespace EntMath
theorem texts_more {e : E} (h : right e = true) (t : List Int) : ∀ s ∈ (texts 5 (bytes0 e ++ t)).1, s.length ≤ 10000 := by
  have hf := right_fit h
  have hx := texts_app [e.feed, e.guid, e.title, e.link, e.body] (NumMath.D e.time ++ t) hf.small
  rw [bytes0_flat, List.append_assoc, show (5 : Nat) = [e.feed, e.guid, e.title, e.link, e.body].length from rfl, hx]
  have := hf.l1; have := hf.l2; have := hf.l3; have := hf.l4; have := hf.l5
  intro s hs
  simp at hs
  rcases hs with rfl | rfl | rfl | rfl | rfl <;> omega
end EntMath
namespace Go.Proofs.YtdikjodgendgdaaGreatDoor
open Go.RowKit NumMath
open EntMath (E bytes0)
set_option maxRecDepth 100000
set_option linter.unusedVariables false
set_option linter.unusedSimpArgs false

set_option maxHeartbeats 16000000 in
theorem entryShort_walk (n0 n1 n2 : Int) (a3 : Option Addr) (zs : List Int) (cap3 : Nat) (W : World) (ht : Env W) (w0 : (Lit.int .u8 n0).wf = true) (w1 : (Lit.int .u8 n1).wf = true) (w2 : (Lit.int .u16 n2).wf = true)
    (hr3 : Row .u8 W a3 zs) (hc3 : zs.length ≤ cap3) (hm3 : cap3 ≤ maxLen) (hn3 : a3 = none → cap3 = 0) (hw3 : ∀ n ∈ zs, (Lit.int .u8 n).wf = true) (hs3 : cap3 * 1 ≤ 140737488351232) :
    Calls Tryz.prog 6 #[.int .u8 n0, .int .u8 n1, .int .u16 n2, .slice a3 zs.length cap3] W fun r W' => r = .returned (.bool true) ∧ Below W.heap.size W W' := by
  have hb0 := bounds_u8 w0
  have hb1 := bounds_u8 w1
  have hb2 := bounds_u16 w2
  obtain ⟨k, rfl⟩ : ∃ n : Nat, n0 = (n : Int) := ⟨n0.toNat, by omega⟩
  obtain ⟨j, rfl⟩ : ∃ n : Nat, n1 = (n : Int) := ⟨n1.toNat, by omega⟩
  obtain ⟨a, rfl⟩ : ∃ n : Nat, n2 = (n : Int) := ⟨n2.toNat, by omega⟩
  have hzb : ∀ c ∈ zs, 0 ≤ c ∧ c ≤ 255 := fun c hc => bounds_u8 (hw3 c hc)
  have HT0 : Hid _ := ht
  have HK : Hid _ := known_any W ht
  have HSe : Hid (∀ w, _) := fun w => seatEntry_any k j a w (by omega) (by omega) (by omega)
  have hri := seatE_right k j a
  have hfit := EFit.of (EntMath.right_fit hri)
  have HBy : Hid (∀ w, MaxLen w → _) := fun w ht => entBytes_any (seatE k j a) w ht hfit
  have HRow : Hid _ := hr3
  have HZb : Hid _ := hzb
  have hnl : a3 = none → zs.length = 0 ∧ cap3 = 0 := fun h => by have := hn3 h; omega
  have HNL : Hid _ := hnl
  have hbe : EntMath.bytes (seatE k j a) = bytes0 (seatE k j a) := by unfold EntMath.bytes; rw [if_pos hri]
  rw [hbe] at HBy
  have hbl := EntMath.bytes0_len (EntMath.right_fit hri)
  have HRi : Hid _ := hri
  clear ht w0 w1 w2 hb0 hb1 hb2 hr3 hw3 hn3 hnl hfit hbe hri hzb
  generalize seatE k j a = e at *
  unfold entV at HSe HBy
  go_enter Tryz.func6, Tryz.ntmps6
  go_wp2_with fail
  refine Calls.mono HK.out ?_
  rintro r w1 ⟨rfl, hb⟩
  have HB1 : Hid _ := hb
  clear hb
  go_wp2_with fail
  refine Calls.mono (HSe.out _) ?_
  rintro r w2 ⟨rfl, hb⟩
  have HB2 : Hid _ := HB1.out.trans (hb.mono HB1.out.size)
  have HB3 : Hid (Below W.heap.size W (w2.alloc (.cells #[.string (strN e.feed), .string (strN e.guid), .string (strN e.title), .string (strN e.link), .string (strN e.body), .int .i64 e.time] 23))) := HB2.out.alloc HB2.out.size _
  clear hb HB1
  go_wp2_with fail
  generalize World.alloc w2 _ = w3 at *
  have HT3 : Hid (Env w3) := HT0.out.later HB3.out
  refine Calls.mono (HBy.out _ HT3.out.max) ?_
  rintro r w4 ⟨v, rfl, hby, hb⟩
  obtain ⟨ab, c, rfl, hrow, hbb, hc, hm, hn⟩ := hby
  have HB4 : Hid _ := HB3.out.trans (hb.mono HB3.out.size)
  have HT4 : Hid (Env w4) := HT3.out.later hb
  have HRB : Hid _ := hrow
  have HBB : Hid _ := hbb
  obtain ⟨L, hL⟩ : ∃ L, L = (bytes0 e).length := ⟨_, rfl⟩
  have HL : Hid _ := hL
  rw [← hL] at hc hbl ⊢
  have HNB : Hid _ := hn
  have hmc : (c : Int) ≤ 9223372036854775807 := by unfold maxLen at hm; omega
  have HM : Hid _ := hm
  clear hb hrow hbb hn hm HB3 HT3 hL HB2
  go_wp2_with fail
  go_loopw [11] (fun i wr => ∃ n : Nat, n ≤ L ∧ i = .int .i64 (n : Int) ∧ Below w4.heap.size w4 wr) (fun i _ => L - (intOf i).toNat)
  case atStart => exact ⟨0, by omega, rfl, Below.refl _ _⟩
  case round =>
    obtain ⟨n, hnL, rfl, hbw⟩ := hrel
    have HBw : Hid _ := hbw
    have HBW : Hid (Below W.heap.size W wr) := HB4.out.trans (hbw.mono HB4.out.size)
    have HTr : Hid (Env wr) := HT0.out.later HBW.out
    clear hbw
    by_cases hlt : n < L
    · have htl : ((bytes0 e).take n).length = n := by rw [List.length_take]; have := HL.out; omega
      have HRd : Hid (Calls Tryz.prog 23 #[.slice ab n c] wr fun r w' => r = .returned (.tuple #[.agg #[.string ⟨#[]⟩, .string ⟨#[]⟩, .string ⟨#[]⟩, .string ⟨#[]⟩, .string ⟨#[]⟩, .int .i64 0], .int .i64 20]) ∧ Below wr.heap.size wr w') := by
        have hbt : ∀ x ∈ (bytes0 e).take n, 0 ≤ x ∧ x ≤ 255 := fun x hx => HBB.out x (List.mem_of_mem_take hx)
        have := entRead_any ab ((bytes0 e).take n) c wr HTr.out.max ⟨(Row.later HRB.out HBw.out).take n, by rw [htl]; omega, HM.out, HNB.out⟩ hbt (EntMath.texts_small _ hbt (by rw [htl]; omega))
        rw [htl, EntMath.read_cut HRi.out n (by rw [← HL.out]; exact hlt)] at this
        exact this
      have hnL2 : (n : Int) ≤ (L : Int) := by omega
      have hnc : (n : Int) ≤ (c : Int) := by omega
      clear htl
      go_wp2_with fail
      refine Calls.mono HRd.out ?_
      rintro r w5 ⟨rfl, hb⟩
      have HB5 : Hid _ := HBw.out.trans (hb.mono HBw.out.size)
      clear hb HRd
      go_wp2
      go_roundw
      case rel => exact ⟨n + 1, by omega, by go_num, HB5.out.alloc HB5.out.size _⟩
      case measure => simp [intOf]; omega
    · obtain rfl : n = L := by omega
      obtain ⟨TL, hTL⟩ : ∃ TL, TL = zs.length := ⟨_, rfl⟩
      have HTL : Hid _ := hTL
      rw [← hTL] at HNL hc3 ⊢
      have hn1 : 0 < n := by omega
      have hn1i : (0 : Int) < (n : Int) := by omega
      clear hTL hlt hnL
      by_cases hz : TL = 0
      · subst hz
        go_wp2
        go_ret
        exact ⟨rfl, HBW.out⟩
      · have hTp : 0 < TL := by omega
        have hTpi : (0 : Int) < (TL : Int) := by omega
        have hTb : ((TL : Int) == 0) = false := by simp; omega
        have hnb : ((n : Int) == 0) = false := by simp; omega
        have hzne : zs ≠ [] := by intro h; have := HTL.out; rw [h] at this; simp at this; omega
        have hrd := EntMath.read_more HRi.out zs hzne
        have HZr : Hid (Row .u8 wr a3 zs) := Row.later HRow.out HBW.out
        have HBr : Hid (Row .u8 wr ab (bytes0 e)) := Row.later HRB.out HBw.out
        obtain ⟨i0, hi, hz0, hz1, hz2⟩ := info_parts Tryz.info5
        have HRD : Hid _ := hrd
        have hNL2 : ab = none → n = 0 ∧ c = 0 := fun h => by have := HNB.out h; omega
        have HNL2 : Hid _ := hNL2
        clear hrd hz hzne hNL2
        go_wp2_with (first
          | (at_builtin; refine wpList_append_own_any rfl _ (.tmp 56) 48 rfl wr.heap.size 5 i0 (.int .u8 0) 1 1 Tryz.underlying48 hi hz0 hz1 hz2 rfl (by decide) (.slice none 0 0) 0 [] rfl (World.ownsRow_nil _ _ _ _) ab n c ((bytes0 e).map (Value.int .u8)) rfl (by rw [List.length_map, Nat.mul_one]; exact HL.out.symm) HNL2.out (Row.news HBr.out) (ints_oneCell _ _) (by unfold maxLen; omega) (by omega) (Nat.le_refl _) ?_; intro v1 w5 hown1 hgrow1; rw [Nat.zero_add, List.nil_append] at hown1; have HG1 : Hid _ := hgrow1; have HO1 : Hid _ := hown1; clear hgrow1; obtain ⟨g1, c1, hv1, hg1, hc1, hm1⟩ := own_some hown1 hn1; clear hown1; subst hv1)
          | (at_builtin; refine wpList_append_own_any rfl (.tmp 57) (.tmp 58) 48 rfl wr.heap.size 5 i0 (.int .u8 0) 1 1 Tryz.underlying48 hi hz0 hz1 hz2 rfl (by decide) _ n ((bytes0 e).map (Value.int .u8)) rfl HO1.out a3 TL cap3 (zs.map (Value.int .u8)) rfl (by rw [List.length_map, Nat.mul_one]; exact HTL.out.symm) HNL.out (Row.news (Row.later HZr.out ((Below.refl _ _).grown HG1.out (Nat.le_refl _) (fun k hk => by cases hk)))) (ints_oneCell _ _) (by unfold maxLen; omega) (by omega) (HG1.out.size) ?_; intro v2 w6 hown2 hgrow2; have HO2 : Hid _ := hown2; have HG2 : Hid _ := hgrow2; clear hown2 hgrow2))
        have hown2 := HO2.out
        have hgrow2 := HG2.out
        clear HO2 HG2
        rw [← List.map_append] at hown2
        have HB6 : Hid (Below W.heap.size W w6) := ((HBW.out.grown HG1.out HBW.out.size (fun k hk => by cases hk)).grown hgrow2 (Nat.le_trans HBW.out.size HG1.out.size) (fun k hk => by have := own_ge HO1.out k hk; have := HBW.out.size; omega))
        obtain ⟨a5, c5, hv5, hr5, hc5, hm5, hn5⟩ := own_shape hown2
        subst hv5
        have HRe : Hid (Rest w6 a5 (bytes0 e ++ zs) c5) := ⟨hr5, hc5, hm5, hn5⟩
        clear hown2 hgrow2 hr5 hc5 hm5 hn5
        have HT6 : Hid (Env w6) := HT0.out.later HB6.out
        have HRd : Hid (Calls Tryz.prog 23 #[.slice a5 (bytes0 e ++ zs).length c5] w6 fun r w' => r = .returned (.tuple #[.agg #[.string ⟨#[]⟩, .string ⟨#[]⟩, .string ⟨#[]⟩, .string ⟨#[]⟩, .string ⟨#[]⟩, .int .i64 0], .int .i64 21]) ∧ Below w6.heap.size w6 w') := by
          have := entRead_any a5 (bytes0 e ++ zs) c5 w6 HT6.out.max HRe.out (by intro x hx; rcases List.mem_append.1 hx with h | h; exact HBB.out x h; exact HZb.out x h) (EntMath.texts_more HRi.out zs)
          rw [HRD.out] at this
          exact this
        refine Calls.mono HRd.out ?_
        rintro r w7 ⟨rfl, hb⟩
        have HB7 : Hid _ := HB6.out.trans (hb.mono HB6.out.size)
        clear hb HRd
        go_wp2
        go_ret
        exact ⟨rfl, HB7.out.alloc HB7.out.size _⟩
end Go.Proofs.YtdikjodgendgdaaGreatDoor

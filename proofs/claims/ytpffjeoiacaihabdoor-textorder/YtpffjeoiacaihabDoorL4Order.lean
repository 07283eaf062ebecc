/-
  Walk of newsreellaw4.TextOrder.
-/
import Derived.Test.YtpffjeoiacaihabDoorL4Kit2
import Derived.Test.YtpffjeoiacaihabDoorFnPlace
import Derived.Test.YtpffjeoiacaihabDoorGrowKit
namespace Go.Proofs.YtpffjeoiacaihabDoor
open Go.RowKit NumMath
set_option maxRecDepth 100000
set_option linter.unusedVariables false
set_option linter.unusedSimpArgs false

theorem lit7 (w : World) (vs : List Value) (j : Nat) (v : Value) (hj : vs[j]? = some v) : (w.alloc (.cells vs.toArray 9)).cell? ⟨w.heap.size, j, none⟩ = some v := by
  simp [hj]

set_option maxRecDepth 100000 in
set_option maxHeartbeats 8000000 in
theorem textOrder_walk (s0 s1 s2 : ByteArray) (a3 : Option Addr) (xs3 : List Int) (cap3 : Nat) (n4 : Int) (W : World) (ht : Tab W) (hs0 : s0.size ≤ 140737488355328) (hs1 : s1.size ≤ 140737488355328) (hs2 : s2.size ≤ 140737488355328) (hr3 : Row .u16 W a3 xs3) (hc3 : xs3.length ≤ cap3) (hm3 : cap3 ≤ maxLen) (hn3 : a3 = none → cap3 = 0) (hw3 : ∀ n ∈ xs3, (Lit.int .u16 n).wf = true) (hs3 : cap3 * 2 ≤ 140737488351232) (w4 : (Lit.int .u8 n4).wf = true) :
    Calls Tryd.prog 3 #[.string s0, .string s1, .string s2, .slice a3 xs3.length cap3, .int .u8 n4] W fun e W' => e = .returned (.bool true) ∧ Below W.heap.size W W' := by
  obtain ⟨a, ha, rfl⟩ := any_str s0
  obtain ⟨b, hb, rfl⟩ := any_str s1
  obtain ⟨c, hc, rfl⟩ := any_str s2
  have hb4 := bounds_u8 w4
  clear w4
  obtain ⟨ns, rfl, hns⟩ := nats16 hw3
  have hrow := vrow16 hr3
  rw [List.length_map] at hc3 ⊢
  have HK : Hid _ := known_any W ht
  have HTb : Hid _ := ht
  unfold maxLen at hm3
  obtain ⟨n, hn⟩ : ∃ n, n = ns.length := ⟨_, rfl⟩
  have HN : Hid _ := hn
  have HR : Hid _ := hrow
  rw [← hn] at hc3 ⊢
  clear hr3 hw3 hn hrow ht
  have hsza := strN_size a
  have hszb := strN_size b
  have hszc := strN_size c
  by_cases hbig : a.length ≤ 1000 ∧ b.length ≤ 1000 ∧ c.length ≤ 1000 ∧ n ≤ 300
  · obtain ⟨hl1, hl2, hl3, hn1⟩ := hbig
    obtain ⟨p, hp⟩ : ∃ p : Nat, n4 % ((n + 1 : Nat) : Int) = (p : Int) := ⟨(n4 % ((n + 1 : Nat) : Int)).toNat, by have := Int.emod_nonneg n4 (show ((n + 1 : Nat) : Int) ≠ 0 by omega); omega⟩
    have hpn : p ≤ n := by have := Int.emod_lt_of_pos n4 (show (0 : Int) < ((n + 1 : Nat) : Int) by omega); omega
    have HT : Hid (∀ w, Below W.heap.size W w → Calls Tryd.prog 5 #[.slice a3 n cap3] w fun e w' => e = .returned (.string (strN (seatT ns))) ∧ Below w.heap.size w w') := by
      intro w hw
      have := seatRunes_any a3 cap3 ns w (VRow.later HR.out hw) hns (by rw [← HN.out]; exact hc3) (by unfold maxLen; omega) (by rw [← HN.out]; omega)
      rw [← HN.out] at this
      exact this
    have HU : Hid (∀ w, Below W.heap.size W w → Calls Tryd.prog 5 #[.slice a3 p cap3] w fun e w' => e = .returned (.string (strN (seatT (ns.take p)))) ∧ Below w.heap.size w w') := by
      intro w hw
      have hl : (ns.take p).length = p := by rw [List.length_take, ← HN.out]; omega
      have := seatRunes_any a3 cap3 (ns.take p) w (by have := (VRow.later HR.out hw).take p; simpa [hv16] using this) (fun r hr => hns r (List.mem_of_mem_take hr)) (by omega) (by unfold maxLen; omega) (by omega)
      rw [hl] at this
      exact this
    have HP : Hid (∀ w, Calls Tryd.prog 6 #[.int .i64 n4, .int .i64 ((n : Int) + 1)] w fun e w' => e = .returned (.int .i64 (p : Int)) ∧ w' = w) := by
      intro w
      have := place_any n4 (n + 1) w (by omega) (by omega) (by omega) (by omega)
      rw [hp] at this
      simpa using this
    have htl := seatT_len ns
    rw [← HN.out] at htl
    have htb := seatT_lt ns
    have hul := seatT_len (ns.take p)
    have hul2 : (ns.take p).length ≤ 300 := by rw [List.length_take]; omega
    have hub := seatT_lt (ns.take p)
    generalize seatT ns = T at *
    generalize seatT (ns.take p) = U at *
    have hsum := sum_strN T a (by omega)
    have hSb := app_lt htb ha
    have hSl : (T ++ a).length ≤ 2200 := by rw [List.length_append]; omega
    generalize T ++ a = S at *
    have hfl := foldB_len T
    have hfb := foldB_lt T
    have HF : Hid (∀ w, _) := fun w => fold_any T w htb (by omega)
    generalize TxtMath.foldB T = F at *
    obtain ⟨ss, hss⟩ : ∃ ss : List (List Nat), ss = [a, b, c, T, U, F, S] := ⟨_, rfl⟩
    have HSS : Hid _ := hss
    have hssl : ss.length = 7 := by rw [hss]; rfl
    have hall : ∀ t ∈ ss, (∀ c ∈ t, c < 256) ∧ t.length ≤ 10000 := by
      rw [hss]
      intro t ht
      simp only [List.mem_cons, List.not_mem_nil, or_false] at ht
      rcases ht with rfl | rfl | rfl | rfl | rfl | rfl | rfl
      · exact ⟨ha, by omega⟩
      · exact ⟨hb, by omega⟩
      · exact ⟨hc, by omega⟩
      · exact ⟨htb, by omega⟩
      · exact ⟨hub, by omega⟩
      · exact ⟨hfb, by omega⟩
      · exact ⟨hSb, by omega⟩
    have HALL : Hid _ := hall
    have HSL : Hid _ := hssl
    clear hss hall hssl hp ha hb hc htb hub hfb hSb hns
    go_enter Tryd.func3, Tryd.ntmps3
    go_wp2_with fail
    refine Calls.mono HK.out ?_
    rintro e x0 ⟨rfl, hb⟩
    have HXa : Hid _ := hb
    clear hb
    go_wp2_with fail
    refine Calls.mono (HT.out _ HXa.out) ?_
    rintro e x1 ⟨rfl, hb⟩
    have HXb : Hid _ := HXa.out.trans (hb.mono HXa.out.size)
    clear hb
    go_wp2_with fail
    refine Calls.mono (HP.out _) ?_
    rintro e x1' ⟨rfl, rfl⟩
    go_wp2_with fail
    refine Calls.mono (HU.out _ HXb.out) ?_
    rintro e x2 ⟨rfl, hb⟩
    have HX2 : Hid _ := HXb.out.trans (hb.mono HXb.out.size)
    clear hb
    go_wp2_with fail
    refine Calls.mono (HF.out _) ?_
    rintro e x3 ⟨rfl, hb⟩
    have HX3 : Hid _ := HX2.out.trans (hb.mono HX2.out.size)
    clear hb
    have HLC : Hid (∀ j t, ss[j]? = some t → (x3.alloc (.cells #[.string (strN a), .string (strN b), .string (strN c), .string (strN T), .string (strN U), .string (strN F), .string (strN S)] 9)).cell? ⟨x3.heap.size, j, none⟩ = some (.string (strN t))) := by
      intro j t hj
      have := lit7 x3 (sv ss) j _ (sv_get hj)
      rw [HSS.out] at this
      exact this
    have HZ : Hid (Below W.heap.size W (x3.alloc (.cells #[.string (strN a), .string (strN b), .string (strN c), .string (strN T), .string (strN U), .string (strN F), .string (strN S)] 9))) := HX3.out.alloc HX3.out.size _
    go_wp2
    generalize x3.alloc (.cells #[.string (strN a), .string (strN b), .string (strN c), .string (strN T), .string (strN U), .string (strN F), .string (strN S)] 9) = z at *
    generalize x3.heap.size = g at *
    have HC : Hid (∀ w s t, Below W.heap.size W w → s ∈ ss → t ∈ ss → Calls Tryd.prog 8 #[.string (strN s), .string (strN t)] w fun e w' => e = .returned (.bool (TxtMath.lessB s t)) ∧ Below w.heap.size w w') := by
      intro w s t hw hs ht
      exact less_any s t w (Tab.later HTb.out hw) (HALL.out s hs).1 (HALL.out t ht).1 (by have := (HALL.out s hs).2; omega) (by have := (HALL.out t ht).2; omega)
    have HD : Hid (∀ w s t, s ∈ ss → t ∈ ss → Calls Tryd.prog 9 #[.string (strN s), .string (strN t)] w fun e w' => e = .returned (.bool (TxtMath.lessB s t)) ∧ Below w.heap.size w w') := by
      intro w s t hs ht
      exact refLess_any s t w (HALL.out s hs).1 (HALL.out t ht).1 (by have := (HALL.out s hs).2; omega) (by have := (HALL.out t ht).2; omega)
    have HG : Hid (∀ w, Below z.heap.size z w → ∀ n : Grown1 w, Below W.heap.size W n.w) := fun w hw n => (HZ.out.trans (hw.mono HZ.out.size)).trans (n.below.mono (Nat.le_trans HZ.out.size hw.size))
    have HGC : Hid (∀ w, Below z.heap.size z w → ∀ k t, ss[k]? = some t → ∀ n : Grown1 w, n.w.cell? ⟨g, k, none⟩ = some (.string (strN t))) := fun w hw k t hk n => grown1_cell (cell_later (HLC.out k t hk) hw) n
    have HGL : Hid (∀ w, Below z.heap.size z w → ∀ s t b, s ∈ ss → t ∈ ss → TxtMath.lessB s t = b → ∀ n : Grown1 w, Calls Tryd.prog 8 #[.string (strN s), .string (strN t)] n.w fun e w' => e = .returned (.bool b) ∧ Below n.w.heap.size n.w w') := by
      intro w hw s t b hs ht hb n
      rw [← hb]
      exact HC.out n.w s t (HG.out w hw n) hs ht
    have HGR : Hid (∀ w, Below z.heap.size z w → ∀ s t b, s ∈ ss → t ∈ ss → TxtMath.lessB s t = b → ∀ n : Grown1 w, Calls Tryd.prog 9 #[.string (strN s), .string (strN t)] n.w fun e w' => e = .returned (.bool b) ∧ Below n.w.heap.size n.w w') := by
      intro w hw s t b hs ht hb n
      rw [← hb]
      exact HD.out n.w s t hs ht
    have hhi : ∀ t : List Nat, ((strN t).toList != (strN t).toList) = false := fun t => by simp
    clear HK HT HU HP HF HSS hsza hszb hszc hs0 hs1 hs2 hsum hul2 htl hul hSl hfl hl1 hl2 hl3 HXa HXb HX2 HX3 HTb HC HD HLC HG HR HN
    go_loopw [15] (fun i wr => ∃ k : Nat, k ≤ 7 ∧ i = .int .i64 (k : Int) ∧ Below z.heap.size z wr) (fun i _ => 7 - (intOf i).toNat)
    case atStart => exact ⟨0, by omega, rfl, Below.refl _ _⟩
    case round =>
      obtain ⟨i, hi, rfl, hbi⟩ := hrel
      have HBI : Hid _ := hbi
      clear hbi
      by_cases hlt : i < 7
      · obtain ⟨si, hsi⟩ : ∃ t, ss[i]? = some t := ⟨ss[i]'(by rw [HSL.out]; exact hlt), List.getElem?_eq_getElem _⟩
        have HSI : Hid _ := hsi
        have HMI : Hid _ := List.mem_of_getElem? hsi
        clear hsi
        go_wp2
        generalize Value.bool (decide ((i : Int) < 7)) = b65
        go_loopw [16] (fun j wr => ∃ k : Nat, k ≤ 7 ∧ j = .int .i64 (k : Int) ∧ Below z.heap.size z wr) (fun j _ => 7 - (intOf j).toNat)
        case atStart => exact ⟨0, by omega, rfl, HBI.out⟩
        case round =>
          obtain ⟨j, hj, rfl, hbj⟩ := hrel
          have HBJ : Hid _ := hbj
          clear hbj HBI
          by_cases hltj : j < 7
          · obtain ⟨sj, hsj⟩ : ∃ t, ss[j]? = some t := ⟨ss[j]'(by rw [HSL.out]; exact hltj), List.getElem?_eq_getElem _⟩
            have HSJ : Hid _ := hsj
            have HMJ : Hid _ := List.mem_of_getElem? hsj
            have hci := HGC.out wr HBJ.out i si HSI.out
            have hcj := HGC.out wr HBJ.out j sj HSJ.out
            have hne : Nonempty (Grown1 wr) := ⟨⟨wr, Below.refl _ _⟩⟩
            clear hsj
            cases hij : TxtMath.lessB si sj with
            | true =>
              have hji := TxtMath.less_asym si sj hij
              have HC1 : Hid _ := HGL.out wr HBJ.out si sj _ HMI.out HMJ.out hij
              have HIJ : Hid _ := hij
              have HJI : Hid _ := hji
              clear hij hji
              go_wp2_with fail
              refine wp_region_grow (by kernel_rfl) (by kernel_rfl) ?_
              repeat (go_big_quiet_step (first | with_reducible exact grown1_call _ (HC1.out _)))
              refine wpQuiet_nil ?_
              intro _ hw'
              obtain ⟨n1, hw''⟩ := hw'
              subst hw''
              have HW1 : Hid _ := HBJ.out.trans (n1.below.mono HBJ.out.size)
              clear hci hcj hne HC1 HBJ
              generalize n1.w = w1 at *
              have hci := HGC.out w1 HW1.out i si HSI.out
              have hcj := HGC.out w1 HW1.out j sj HSJ.out
              have hne : Nonempty (Grown1 w1) := ⟨⟨w1, Below.refl _ _⟩⟩
              have HC2 : Hid _ := HGL.out w1 HW1.out sj si _ HMJ.out HMI.out HJI.out
              have HC3 : Hid _ := HGR.out w1 HW1.out si sj _ HMI.out HMJ.out HIJ.out
              go_wp2_with fail
              refine wp_region_grow (by kernel_rfl) (by kernel_rfl) ?_
              repeat (go_big_quiet_step (first | with_reducible exact grown1_call _ (HC3.out _) | with_reducible exact grown1_call _ (HC2.out _)))
              refine wpQuiet_nil ?_
              intro _ hw'
              obtain ⟨n2, hw''⟩ := hw'
              subst hw''
              have HW2 : Hid _ := HW1.out.trans (n2.below.mono HW1.out.size)
              clear hci hcj hne HC2 HC3 HW1
              generalize n2.w = w2 at *
              go_wp2
              generalize Value.bool (decide ((j : Int) < 7)) = b71
              go_loopw [18] (fun q wr => ∃ k : Nat, k ≤ 7 ∧ q = .int .i64 (k : Int) ∧ Below z.heap.size z wr) (fun q _ => 7 - (intOf q).toNat)
              case atStart => exact ⟨0, by omega, rfl, HW2.out⟩
              case round =>
                obtain ⟨q, hq, rfl, hbq⟩ := hrel
                have HBQ : Hid _ := hbq
                clear hbq HW2
                by_cases hltq : q < 7
                · obtain ⟨sq, hsq⟩ : ∃ t, ss[q]? = some t := ⟨ss[q]'(by rw [HSL.out]; exact hltq), List.getElem?_eq_getElem _⟩
                  have HMQ : Hid _ := List.mem_of_getElem? hsq
                  have hci := HGC.out wr HBQ.out i si HSI.out
                  have hcj := HGC.out wr HBQ.out j sj HSJ.out
                  have hcq := HGC.out wr HBQ.out q sq hsq
                  have hne : Nonempty (Grown1 wr) := ⟨⟨wr, Below.refl _ _⟩⟩
                  clear hsq
                  cases hjq : TxtMath.lessB sj sq with
                  | true =>
                    have HC4 : Hid _ := HGL.out wr HBQ.out sj sq _ HMJ.out HMQ.out hjq
                    have HC5 : Hid _ := HGL.out wr HBQ.out si sq _ HMI.out HMQ.out (TxtMath.less_trans si sj sq HIJ.out hjq)
                    clear hjq
                    go_wp2_with fail
                    refine wp_region_grow (by kernel_rfl) (by kernel_rfl) ?_
                    repeat (go_big_quiet_step (first | with_reducible exact grown1_call _ (HC4.out _) | with_reducible exact grown1_call _ (HC5.out _)))
                    refine wpQuiet_nil ?_
                    intro _ hw'
                    obtain ⟨n3, hw''⟩ := hw'
                    subst hw''
                    have HW3 : Hid _ := HBQ.out.trans (n3.below.mono HBQ.out.size)
                    clear hci hcj hcq hne HC4 HC5 HBQ
                    generalize n3.w = w3 at *
                    go_wp2
                    go_roundw
                    case rel => exact ⟨q + 1, by omega, by simp, HW3.out⟩
                    case measure => simp [intOf]; omega
                  | false =>
                    have HC4 : Hid _ := HGL.out wr HBQ.out sj sq _ HMJ.out HMQ.out hjq
                    clear hjq
                    go_wp2_with fail
                    refine wp_region_grow (by kernel_rfl) (by kernel_rfl) ?_
                    repeat (go_big_quiet_step (first | with_reducible exact grown1_call _ (HC4.out _)))
                    refine wpQuiet_nil ?_
                    intro _ hw'
                    obtain ⟨n3, hw''⟩ := hw'
                    subst hw''
                    have HW3 : Hid _ := HBQ.out.trans (n3.below.mono HBQ.out.size)
                    clear hci hcj hcq hne HC4 HBQ
                    generalize n3.w = w3 at *
                    go_wp2
                    go_roundw
                    case rel => exact ⟨q + 1, by omega, by simp, HW3.out⟩
                    case measure => simp [intOf]; omega
                · go_wp2
                  go_roundw
                  case rel => exact ⟨j + 1, by omega, by simp, HBQ.out⟩
                  case measure => simp [intOf]; omega
            | false =>
              have HC1 : Hid _ := HGL.out wr HBJ.out si sj _ HMI.out HMJ.out hij
              have HIJ : Hid _ := hij
              clear hij
              go_wp2_with fail
              refine wp_region_grow (by kernel_rfl) (by kernel_rfl) ?_
              repeat (go_big_quiet_step (first | with_reducible exact grown1_call _ (HC1.out _)))
              refine wpQuiet_nil ?_
              intro _ hw'
              obtain ⟨n1, hw''⟩ := hw'
              subst hw''
              have HW1 : Hid _ := HBJ.out.trans (n1.below.mono HBJ.out.size)
              clear hci hcj hne HC1 HBJ
              generalize n1.w = w1 at *
              have hci := HGC.out w1 HW1.out i si HSI.out
              have hne : Nonempty (Grown1 w1) := ⟨⟨w1, Below.refl _ _⟩⟩
              have HC3 : Hid _ := HGR.out w1 HW1.out si sj _ HMI.out HMJ.out HIJ.out
              cases hji : TxtMath.lessB sj si with
              | true =>
                have hcj := HGC.out w1 HW1.out j sj HSJ.out
                have HC2 : Hid _ := HGL.out w1 HW1.out sj si _ HMJ.out HMI.out hji
                clear hji
                go_wp2_with fail
                refine wp_region_grow (by kernel_rfl) (by kernel_rfl) ?_
                repeat (go_big_quiet_step (first | with_reducible exact grown1_call _ (HC3.out _) | with_reducible exact grown1_call _ (HC2.out _)))
                refine wpQuiet_nil ?_
                intro _ hw'
                obtain ⟨n2, hw''⟩ := hw'
                subst hw''
                have HW2 : Hid _ := HW1.out.trans (n2.below.mono HW1.out.size)
                clear hci hcj hne HC2 HC3 HW1
                generalize n2.w = w2 at *
                go_wp2
                refine wp_loop_rounds 1 ?_
                rw [rounds_succ]
                go_wp2
                go_roundw
                case rel => exact ⟨j + 1, by omega, by simp, HW2.out⟩
                case measure => simp [intOf]; omega
              | false =>
                have hst := TxtMath.less_tri si sj HIJ.out hji
                subst hst
                have hcj := HGC.out w1 HW1.out j si HSJ.out
                have HC2 : Hid _ := HGL.out w1 HW1.out si si _ HMI.out HMI.out HIJ.out
                have hss := hhi si
                clear hji
                go_wp2_with fail
                refine wp_region_grow (by kernel_rfl) (by kernel_rfl) ?_
                repeat (go_big_quiet_step (first | with_reducible exact grown1_call _ (HC3.out _) | with_reducible exact grown1_call _ (HC2.out _)))
                refine wpQuiet_nil ?_
                intro _ hw'
                obtain ⟨n2, hw''⟩ := hw'
                subst hw''
                have HW2 : Hid _ := HW1.out.trans (n2.below.mono HW1.out.size)
                clear hci hcj hne HC2 HC3 HW1
                generalize n2.w = w2 at *
                go_wp2
                refine wp_loop_rounds 1 ?_
                rw [rounds_succ]
                go_wp2
                go_roundw
                case rel => exact ⟨j + 1, by omega, by simp, HW2.out⟩
                case measure => simp [intOf]; omega
          · go_wp2
            go_roundw
            case rel => exact ⟨i + 1, by omega, by simp, HBJ.out⟩
            case measure => simp [intOf]; omega
      · go_wp2
        go_ret
        exact ⟨rfl, HZ.out.trans (HBI.out.mono HZ.out.size)⟩
  · go_enter Tryd.func3, Tryd.ntmps3
    go_wp2_with fail
    refine Calls.mono HK.out ?_
    rintro e x0 ⟨rfl, hb⟩
    have HXa : Hid _ := hb
    clear hb
    by_cases h1 : 1000 < a.length
    · clear hbig
      go_wp2
      go_ret
      exact ⟨rfl, HXa.out⟩
    by_cases h2 : 1000 < b.length
    · clear hbig
      go_wp2
      go_ret
      exact ⟨rfl, HXa.out⟩
    by_cases h3 : 1000 < c.length
    · clear hbig
      go_wp2
      go_ret
      exact ⟨rfl, HXa.out⟩
    have h4 : 300 < n := by omega
    clear hbig
    go_wp2
    go_ret
    exact ⟨rfl, HXa.out⟩
end Go.Proofs.YtpffjeoiacaihabDoor

/-
  Walk of newsreellaw4.TextCleans.
-/
import Derived.Test.YtpffjeoiacaihaaDoorFnTxtRight
import Derived.Test.YtpffjeoiacaihaaDoorFnRefTxtRight
import Derived.Test.YtpffjeoiacaihaaDoorL4Kit
import Derived.Test.YtpffjeoiacaihaaDoorFnRefTop
namespace Go.Proofs.YtpffjeoiacaihaaDoor
open Go.RowKit NumMath
set_option maxRecDepth 100000
set_option linter.unusedVariables false
set_option linter.unusedSimpArgs false

theorem litS (w : World) (vs : List (List Nat)) (j : Nat) (t : List Nat) (hj : vs[j]? = some t) : (w.alloc (.cells (sv vs).toArray 9)).cell? ⟨w.heap.size, j, none⟩ = some (.string (strN t)) := by
  simp [sv, hj]
theorem lit3 (w : World) (ms : List Int) (j : Nat) (hj : j < ms.length) : (w.alloc (.cells (ms.map (Value.int .i64)).toArray 3)).cell? ⟨w.heap.size, j, none⟩ = some (.int .i64 (ms[j]?.getD 0)) := by
  simp [hj]

set_option maxRecDepth 100000 in
set_option maxHeartbeats 8000000 in
theorem textCleans_walk (s0 : ByteArray) (a1 : Option Addr) (xs1 : List Int) (cap1 : Nat) (n2 : Int) (W : World) (ht : Tab W) (hs0 : s0.size ≤ 140737488355328) (hr1 : Row .u16 W a1 xs1) (hc1 : xs1.length ≤ cap1) (hm1 : cap1 ≤ maxLen) (hn1 : a1 = none → cap1 = 0) (hw1 : ∀ n ∈ xs1, (Lit.int .u16 n).wf = true) (hs1 : cap1 * 2 ≤ 140737488351232) (w2 : (Lit.int .i64 n2).wf = true) :
    Calls Tryd.prog 9 #[.string s0, .slice a1 xs1.length cap1, .int .i64 n2] W fun e W' => e = .returned (.bool true) ∧ Below W.heap.size W W' := by
  obtain ⟨l, hl, rfl⟩ := any_str s0
  have hb2 := bounds_i64 w2
  clear w2
  obtain ⟨ns, rfl, hns⟩ := nats16 hw1
  have hrow := vrow16 hr1
  rw [List.length_map] at hc1 ⊢
  have HK : Hid _ := known_any W ht
  unfold maxLen at hm1
  obtain ⟨n, hn⟩ : ∃ n, n = ns.length := ⟨_, rfl⟩
  have HN : Hid _ := hn
  have HR : Hid _ := hrow
  rw [← hn] at hc1 ⊢
  clear hr1 hw1 hn1 hn hrow ht
  have hsz := strN_size l
  by_cases hbig : l.length ≤ 3000 ∧ n ≤ 1000
  · obtain ⟨hl1, hn1⟩ := hbig
    have HT : Hid (∀ w, Below W.heap.size W w → Calls Tryd.prog 27 #[.slice a1 n cap1] w fun e w' => e = .returned (.string (strN (seatT ns))) ∧ Below w.heap.size w w') := by
      intro w hw
      have := seatRunes_any a1 cap1 ns w (VRow.later HR.out hw) hns (by rw [← HN.out]; exact hc1) (by unfold maxLen; omega) (by rw [← HN.out]; omega)
      rw [← HN.out] at this
      exact this
    have htl := seatT_len ns
    rw [← HN.out] at htl
    have htb := seatT_lt ns
    generalize seatT ns = T at *
    have hsum := sum_strN T l (by omega)
    have hSb := app_lt htb hl
    have hSl : (T ++ l).length ≤ 7000 := by rw [List.length_append]; omega
    generalize hS : T ++ l = S at *
    clear hS
    have HF1 : Hid (∀ w, _) := fun w => refCleanS_any T w htb (by omega)
    have hcl := cleanB_len T
    have hcb := cleanB_lt T
    generalize TxtMath.cleanB T = c at *
    obtain ⟨vs, hvs⟩ : ∃ vs : List (List Nat), vs = [l, T, S, c] := ⟨_, rfl⟩
    -- each text
    have HV : Hid (∀ j, j < 4 → ∃ t, vs[j]? = some t ∧
        (∀ w, Calls Tryd.prog 29 #[.string (strN t)] w fun e w' => e = .returned (.string (strN (TxtMath.cleanB t))) ∧ Below w.heap.size w w') ∧
        (∀ w, Calls Tryd.prog 28 #[.string (strN t)] w fun e w' => e = .returned (.string (strN (TxtMath.cleanB t))) ∧ Below w.heap.size w w') ∧
        (∀ w, Calls Tryd.prog 30 #[.string (strN t)] w fun e w' => e = .returned (.int .i64 (((TxtMath.runes t).length : Nat) : Int)) ∧ Below w.heap.size w w') ∧
        (∀ w, Calls Tryd.prog 31 #[.string (strN t)] w fun e w' => ∃ ao cp, e = .returned (.slice ao (TxtMath.runes t).length cp) ∧ Below w.heap.size w w') ∧
        (∀ m : Int, ∀ w, Calls Tryd.prog 32 #[.string (strN t), .int .i64 m] w fun e w' => e = .returned (.bool (TxtMath.rightB t m)) ∧ Below w.heap.size w w') ∧
        (∀ m : Int, ∀ w, Calls Tryd.prog 33 #[.string (strN t), .int .i64 m] w fun e w' => e = .returned (.bool (TxtMath.rightB t m)) ∧ Below w.heap.size w w') ∧ (TxtMath.runes t).length ≤ 1000000) := by
      intro j hj
      have hex : ∃ t, vs[j]? = some t ∧ (∀ c ∈ t, c < 256) ∧ t.length ≤ 100000 := by
        rw [hvs]
        rcases (by omega : j = 0 ∨ j = 1 ∨ j = 2 ∨ j = 3) with rfl | rfl | rfl | rfl
        · exact ⟨l, rfl, hl, by omega⟩
        · exact ⟨T, rfl, htb, by omega⟩
        · exact ⟨S, rfl, hSb, by omega⟩
        · exact ⟨c, rfl, hcb, by omega⟩
      obtain ⟨t, h1, h2, h3⟩ := hex
      have h4 := TxtMath.runes_len_le t
      refine ⟨t, h1, fun w => clean_any t w h2 (by omega), fun w => refCleanS_any t w h2 (by omega), fun w => runes_any t w h2 (by omega), fun w => ?_, fun m w => txtRight_any t m w h2 (by omega), fun m w => refTxtRight_any t m w h2 (by omega), by omega⟩
      refine (refRunes_any t w h2 (by omega)).mono ?_
      rintro e w' ⟨v, rfl, ho, hb⟩
      obtain ⟨ao, cp, rfl, _⟩ := ho.shape
      rw [iv_len]
      exact ⟨ao, cp, rfl, hb⟩
    go_enter Tryd.func9, Tryd.ntmps9
    go_wp2_with fail
    refine Calls.mono HK.out ?_
    rintro e x0 ⟨rfl, hb⟩
    have HXa : Hid _ := hb
    clear hb
    go_wp2_with fail
    refine Calls.mono (HT.out _ HXa.out) ?_
    rintro e x1 ⟨rfl, hb⟩
    have HXb : Hid _ := HXa.out.trans (hb.mono HXa.out.size)
    clear hb
    go_wp2_with fail
    refine Calls.mono (HF1.out _) ?_
    rintro e x2 ⟨rfl, hb⟩
    have HX2 : Hid _ := HXb.out.trans (hb.mono HXb.out.size)
    clear hb
    have HLC : Hid (∀ j t, vs[j]? = some t → (x2.alloc (.cells #[.string (strN l), .string (strN T), .string (strN S), .string (strN c)] 9)).cell? ⟨x2.heap.size, j, none⟩ = some (.string (strN t))) := by
      intro j t hj
      have := litS x2 vs j t hj
      rw [hvs] at this
      exact this
    have HZ : Hid (Below W.heap.size W (x2.alloc (.cells #[.string (strN l), .string (strN T), .string (strN S), .string (strN c)] 9))) := HX2.out.alloc HX2.out.size _
    clear hvs
    go_wp2
    generalize x2.alloc (.cells #[.string (strN l), .string (strN T), .string (strN S), .string (strN c)] 9) = z at *
    generalize x2.heap.size = g at *
    go_loopw [34] (fun i wr => ∃ j : Nat, j ≤ 4 ∧ i = .int .i64 (j : Int) ∧ Below z.heap.size z wr) (fun i _ => 4 - (intOf i).toNat)
    case atStart => exact ⟨0, by omega, rfl, Below.refl _ _⟩
    case round =>
      obtain ⟨j, hj, rfl, hbw⟩ := hrel
      have HBW : Hid _ := hbw
      by_cases hlt : j < 4
      · obtain ⟨t, hjt, hG1, hG2, hG3, hG4, hG5, hG6, hrl⟩ := HV.out j hlt
        have hcx := cell_later (HLC.out j t hjt) hbw
        have G1 : Hid _ := hG1
        have G2 : Hid _ := hG2
        have G3 : Hid _ := hG3
        have G4 : Hid _ := hG4
        have G5 : Hid _ := hG5
        have G6 : Hid _ := hG6
        clear hjt hG1 hG2 hG3 hG4 hG5 hG6 hbw
        generalize TxtMath.cleanB t = d at *
        generalize (TxtMath.runes t).length = nr at *
        go_wp2_with fail
        refine Calls.mono (G1.out _) ?_
        rintro e x10 ⟨rfl, hb⟩
        have HX10 : Hid _ := HBW.out.trans (hb.mono HBW.out.size)
        clear hb
        go_wp2_with fail
        refine Calls.mono (G2.out _) ?_
        rintro e x11 ⟨rfl, hb⟩
        have HX11 : Hid _ := HX10.out.trans (hb.mono HX10.out.size)
        clear hb
        go_wp2_with fail
        refine Calls.mono (G3.out _) ?_
        rintro e x12 ⟨rfl, hb⟩
        have HX12 : Hid _ := HX11.out.trans (hb.mono HX11.out.size)
        clear hb
        go_wp2_with fail
        refine Calls.mono (G4.out _) ?_
        rintro e y1 ⟨ao, cp, rfl, hb⟩
        have HY1 : Hid _ := HX12.out.trans (hb.mono HX12.out.size)
        clear hb
        go_wp2_with fail
        refine Calls.mono (G3.out _) ?_
        rintro e x14 ⟨rfl, hb⟩
        have HX14 : Hid _ := HY1.out.trans (hb.mono HY1.out.size)
        clear hb
        obtain ⟨ms, hms⟩ : ∃ ms : List Int, ms = [n2, (nr : Int), (nr : Int) - 1] := ⟨_, rfl⟩
        have HLI : Hid (∀ i, i < 3 → (x14.alloc (.cells #[.int .i64 n2, .int .i64 (nr : Int), .int .i64 ((nr : Int) - 1)] 3)).cell? ⟨x14.heap.size, i, none⟩ = some (.int .i64 (ms[i]?.getD 0))) := by
          intro i hi
          have := lit3 x14 ms i (by rw [hms]; exact hi)
          rw [hms] at this ⊢
          exact this
        have HZ2 : Hid (Below z.heap.size z (x14.alloc (.cells #[.int .i64 n2, .int .i64 (nr : Int), .int .i64 ((nr : Int) - 1)] 3))) := HX14.out.alloc HX14.out.size _
        clear hms
        go_wp2
        generalize x14.alloc (.cells #[.int .i64 n2, .int .i64 (nr : Int), .int .i64 ((nr : Int) - 1)] 3) = z2 at *
        generalize x14.heap.size = g2 at *
        go_loopw [59] (fun i wr => ∃ q : Nat, q ≤ 3 ∧ i = .int .i64 (q : Int) ∧ Below z2.heap.size z2 wr) (fun i _ => 3 - (intOf i).toNat)
        case atStart => exact ⟨0, by omega, rfl, Below.refl _ _⟩
        case round =>
          rename_i wr' _ hrel
          obtain ⟨q, hq, rfl, hbw2⟩ := hrel
          have HBW2 : Hid _ := hbw2
          have HZZ : Hid _ := HZ2.out.trans (hbw2.mono HZ2.out.size)
          by_cases hlt2 : q < 3
          · have hcx2 := cell_later (HLI.out q hlt2) hbw2
            generalize ms[q]?.getD 0 = m at *
            have G7 : Hid _ := G5.out m
            have G8 : Hid _ := G6.out m
            generalize TxtMath.rightB t m = rb at *
            clear hbw2
            go_wp2_with fail
            refine Calls.mono (G7.out _) ?_
            rintro e x20 ⟨rfl, hb⟩
            have HX20 : Hid _ := HBW2.out.trans (hb.mono HBW2.out.size)
            clear hb
            go_wp2_with fail
            refine Calls.mono (G8.out _) ?_
            rintro e x21 ⟨rfl, hb⟩
            have HX21 : Hid _ := HX20.out.trans (hb.mono HX20.out.size)
            clear hb
            have hbb : (rb != rb) = false := by cases rb <;> rfl
            go_wp2
            go_roundw
            case rel => exact ⟨q + 1, by omega, by simp, HX21.out⟩
            case measure => simp [intOf]; omega
          · clear hbw2
            have e : q = 3 := by omega
            subst e
            go_wp2
            go_roundw
            case rel => exact ⟨j + 1, by omega, by simp, HZZ.out⟩
            case measure => simp [intOf]; omega
      · have HWW : Hid _ := HZ.out.trans (hbw.mono HZ.out.size)
        clear hbw
        have e : j = 4 := by omega
        subst e
        go_wp2
        go_ret
        exact ⟨rfl, HWW.out⟩
  · go_enter Tryd.func9, Tryd.ntmps9
    go_wp2_with fail
    refine Calls.mono HK.out ?_
    rintro e x0 ⟨rfl, hb⟩
    have HXa : Hid _ := hb
    clear hb
    by_cases h1 : 3000 < l.length
    · clear hbig
      go_wp2
      go_ret
      exact ⟨rfl, HXa.out⟩
    · have h2 : 1000 < n := by omega
      clear hbig
      go_wp2
      go_ret
      exact ⟨rfl, HXa.out⟩
end Go.Proofs.YtpffjeoiacaihaaDoor

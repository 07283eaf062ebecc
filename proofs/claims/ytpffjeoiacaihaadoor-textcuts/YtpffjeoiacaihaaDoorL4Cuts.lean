/-
  Walk of newsreellaw4.TextCuts.
-/
import Derived.Test.YtpffjeoiacaihaaDoorFnTxtRight
import Derived.Test.YtpffjeoiacaihaaDoorL4Kit
import Derived.Test.YtpffjeoiacaihaaDoorFnRefCut
namespace Go.Proofs.YtpffjeoiacaihaaDoor
open Go.RowKit NumMath
set_option maxRecDepth 100000
set_option linter.unusedVariables false
set_option linter.unusedSimpArgs false

theorem cutB_lt (l : List Nat) (n : Int) : ∀ c ∈ TxtMath.cutB l n, c < 256 := TxtMath.encs_lt _ (TxtMath.cut_ok n l)
theorem lit4 (w : World) (ms : List Int) (j : Nat) (hj : j < ms.length) : (w.alloc (.cells (ms.map (Value.int .i64)).toArray 3)).cell? ⟨w.heap.size, j, none⟩ = some (.int .i64 (ms[j]?.getD 0)) := by
  simp [hj]

set_option maxRecDepth 100000 in
set_option maxHeartbeats 4000000 in
theorem textCuts_walk (s0 : ByteArray) (a1 : Option Addr) (xs1 : List Int) (cap1 : Nat) (n2 n3 : Int) (W : World) (ht : Tab W) (hs0 : s0.size ≤ 140737488355328) (hr1 : Row .u16 W a1 xs1) (hc1 : xs1.length ≤ cap1) (hm1 : cap1 ≤ maxLen) (hn1 : a1 = none → cap1 = 0) (hw1 : ∀ n ∈ xs1, (Lit.int .u16 n).wf = true) (hs1 : cap1 * 2 ≤ 140737488351232) (w2 : (Lit.int .i64 n2).wf = true) (w3 : (Lit.int .u8 n3).wf = true) :
    Calls Tryd.prog 11 #[.string s0, .slice a1 xs1.length cap1, .int .i64 n2, .int .u8 n3] W fun e W' => e = .returned (.bool true) ∧ Below W.heap.size W W' := by
  obtain ⟨l, hl, rfl⟩ := any_str s0
  have hb2 := bounds_i64 w2
  have hb3 := bounds_u8 w3
  clear w2 w3
  obtain ⟨ns, rfl, hns⟩ := nats16 hw1
  have hrow := vrow16 hr1
  rw [List.length_map] at hc1 ⊢
  have HK : Hid _ := known_any W ht
  unfold maxLen at hm1
  obtain ⟨n, hn⟩ : ∃ n, n = ns.length := ⟨_, rfl⟩
  have HN : Hid _ := hn
  have HR : Hid _ := hrow
  rw [← hn] at hc1 ⊢
  clear hr1 hw1 hn1 hn hrow ht
  have hsz := strN_size l
  by_cases hbig : l.length ≤ 3000 ∧ n ≤ 1000
  · obtain ⟨hl1, hn1⟩ := hbig
    have HT : Hid (∀ w, Below W.heap.size W w → Calls Tryd.prog 27 #[.slice a1 n cap1] w fun e w' => e = .returned (.string (strN (seatT ns))) ∧ Below w.heap.size w w') := by
      intro w hw
      have := seatRunes_any a1 cap1 ns w (VRow.later HR.out hw) hns (by rw [← HN.out]; exact hc1) (by unfold maxLen; omega) (by rw [← HN.out]; omega)
      rw [← HN.out] at this
      exact this
    have htl := seatT_len ns
    rw [← HN.out] at htl
    have htb := seatT_lt ns
    generalize seatT ns = T at *
    have hsum := sum_strN T l (by omega)
    have hSb := app_lt htb hl
    have hSl : (T ++ l).length ≤ 7000 := by rw [List.length_append]; omega
    generalize T ++ l = S at *
    have hcl := cleanB_len S
    have hcb := cleanB_lt S
    have hcr := TxtMath.runes_len_le (TxtMath.cleanB S)
    have HF1 : Hid (∀ w, _) := fun w => clean_any S w hSb (by omega)
    have HF2 : Hid (∀ w, _) := fun w => runes_any (TxtMath.cleanB S) w hcb (by omega)
    -- each number
    have HM : Hid (∀ m : Int, -9223372036854775808 ≤ m ∧ m ≤ 9223372036854775807 → ∃ t, TxtMath.cutB S m = t ∧ t.length ≤ (TxtMath.cleanB S).length ∧ (TxtMath.cleanB S).take t.length = t ∧
        (∀ w, Calls Tryd.prog 34 #[.string (strN S), .int .i64 m] w fun e w' => e = .returned (.string (strN t)) ∧ Below w.heap.size w w') ∧
        (∀ w, Calls Tryd.prog 35 #[.string (strN S), .int .i64 m] w fun e w' => e = .returned (.string (strN t)) ∧ Below w.heap.size w w') ∧
        (∀ w, Calls Tryd.prog 32 #[.string (strN t), .int .i64 (max m 0)] w fun e w' => e = .returned (.bool true) ∧ Below w.heap.size w w') ∧
        (∀ w, Calls Tryd.prog 34 #[.string (strN t), .int .i64 m] w fun e w' => e = .returned (.string (strN t)) ∧ Below w.heap.size w w')) := by
      intro m hm
      obtain ⟨q, hq⟩ := TxtMath.cutB_prefix S m
      have hlen : (TxtMath.cutB S m).length ≤ (TxtMath.cleanB S).length := by rw [hq]; simp
      refine ⟨TxtMath.cutB S m, rfl, hlen, ?_, fun w => cut_any S m w hSb (by omega) hm, fun w => refCut_any S m w hSb (by omega) hm, fun w => ?_, fun w => ?_⟩
      · rw [hq]; simp
      · have := txtRight_any (TxtMath.cutB S m) (max m 0) w (cutB_lt S m) (by omega)
        rwa [TxtMath.cutB_right S m (max m 0) rfl] at this
      · have := cut_any (TxtMath.cutB S m) m w (cutB_lt S m) (by omega) hm
        rwa [TxtMath.cutB_twice] at this
    have HLast : Hid (∀ w, Calls Tryd.prog 34 #[.string (strN S), .int .i64 (((TxtMath.runes (TxtMath.cleanB S)).length : Nat) : Int)] w fun e w' => e = .returned (.string (strN (TxtMath.cleanB S))) ∧ Below w.heap.size w w') := by
      intro w
      have := cut_any S (((TxtMath.runes (TxtMath.cleanB S)).length : Nat) : Int) w hSb (by omega) (by omega)
      rwa [TxtMath.cutB_all] at this
    generalize TxtMath.cleanB S = c at *
    generalize (TxtMath.runes c).length = nc at *
    have hszc := strN_size c
    obtain ⟨k8, hk8⟩ : ∃ k : Int, n3 % 8 = k := ⟨_, rfl⟩
    have hk8b : 0 ≤ k8 ∧ k8 ≤ 7 := by omega
    obtain ⟨ms, hms⟩ : ∃ ms : List Int, ms = [n2, n3, k8, (nc : Int)] := ⟨_, rfl⟩
    have hmb : ∀ j, j < 4 → -9223372036854775808 ≤ ms[j]?.getD 0 ∧ ms[j]?.getD 0 ≤ 9223372036854775807 := by
      intro j hj
      rw [hms]
      rcases (by omega : j = 0 ∨ j = 1 ∨ j = 2 ∨ j = 3) with rfl | rfl | rfl | rfl
      · exact hb2
      · show -9223372036854775808 ≤ n3 ∧ n3 ≤ 9223372036854775807; omega
      · show -9223372036854775808 ≤ k8 ∧ k8 ≤ 9223372036854775807; omega
      · show -9223372036854775808 ≤ (nc : Int) ∧ (nc : Int) ≤ 9223372036854775807; omega
    have HMB : Hid _ := hmb
    clear hmb
    go_enter Tryd.func11, Tryd.ntmps11
    go_wp2_with fail
    refine Calls.mono HK.out ?_
    rintro e x0 ⟨rfl, hb⟩
    have HXa : Hid _ := hb
    clear hb
    go_wp2_with fail
    refine Calls.mono (HT.out _ HXa.out) ?_
    rintro e x1 ⟨rfl, hb⟩
    have HXb : Hid _ := HXa.out.trans (hb.mono HXa.out.size)
    clear hb
    go_wp2_with fail
    refine Calls.mono (HF1.out _) ?_
    rintro e x2 ⟨rfl, hb⟩
    have HX2 : Hid _ := HXb.out.trans (hb.mono HXb.out.size)
    clear hb
    go_wp2_with fail
    refine Calls.mono (HF2.out _) ?_
    rintro e x3 ⟨rfl, hb⟩
    have HX3 : Hid _ := HX2.out.trans (hb.mono HX2.out.size)
    clear hb
    have HLC : Hid (∀ j, j < 4 → (x3.alloc (.cells #[.int .i64 n2, .int .i64 n3, .int .i64 k8, .int .i64 (nc : Int)] 3)).cell? ⟨x3.heap.size, j, none⟩ = some (.int .i64 (ms[j]?.getD 0))) := by
      intro j hj
      have := lit4 x3 ms j (by rw [hms]; exact hj)
      rw [hms] at this ⊢
      exact this
    have HZ : Hid (Below W.heap.size W (x3.alloc (.cells #[.int .i64 n2, .int .i64 n3, .int .i64 k8, .int .i64 (nc : Int)] 3))) := HX3.out.alloc HX3.out.size _
    clear hms
    go_wp2
    generalize x3.alloc (.cells #[.int .i64 n2, .int .i64 n3, .int .i64 k8, .int .i64 (nc : Int)] 3) = z at *
    generalize x3.heap.size = g at *
    go_loopw [39] (fun i wr => ∃ j : Nat, j ≤ 4 ∧ i = .int .i64 (j : Int) ∧ Below z.heap.size z wr) (fun i _ => 4 - (intOf i).toNat)
    case atStart => exact ⟨0, by omega, rfl, Below.refl _ _⟩
    case round =>
      obtain ⟨j, hj, rfl, hbw⟩ := hrel
      have HBW : Hid _ := hbw
      have HWW : Hid _ := HZ.out.trans (hbw.mono HZ.out.size)
      by_cases hlt : j < 4
      · have hcx := cell_later (HLC.out j hlt) hbw
        have hmj := HMB.out j hlt
        generalize ms[j]?.getD 0 = m at *
        obtain ⟨t, ht1, htl2, htk, hG1, hG2, hG3, hG4⟩ := HM.out m hmj
        have G1 : Hid _ := hG1
        have G2 : Hid _ := hG2
        have G3 : Hid _ := hG3
        have G4 : Hid _ := hG4
        have hszt := strN_size t
        have hsl : ∀ w, (Instr.sliceAt 9 (.string (strN c)) none (some (.int .i64 (t.length : Int))) none).run Tryd.prog w = .ok (.string (strN t)) w := by
          intro w; rw [run_slice_strN0 c .i64 t.length htl2, htk]
        clear ht1 htk hG1 hG2 hG3 hG4 hbw
        go_wp2_with fail
        refine Calls.mono (G1.out _) ?_
        rintro e x10 ⟨rfl, hb⟩
        have HX10 : Hid _ := HBW.out.trans (hb.mono HBW.out.size)
        clear hb
        go_wp2_with fail
        refine Calls.mono (G2.out _) ?_
        rintro e x11 ⟨rfl, hb⟩
        have HX11 : Hid _ := HX10.out.trans (hb.mono HX10.out.size)
        clear hb
        go_wp2_with fail
        refine Calls.mono (G3.out _) ?_
        rintro e x12 ⟨rfl, hb⟩
        have HX12 : Hid _ := HX11.out.trans (hb.mono HX11.out.size)
        clear hb
        go_wp2_with fail
        refine Calls.mono (G4.out _) ?_
        rintro e x13 ⟨rfl, hb⟩
        have HX13 : Hid _ := HX12.out.trans (hb.mono HX12.out.size)
        clear hb
        go_wp2
        go_roundw
        case rel => exact ⟨j + 1, by omega, by simp, HX13.out⟩
        case measure => simp [intOf]; omega
      · clear hbw
        have e : j = 4 := by omega
        subst e
        go_wp2_with fail
        refine Calls.mono (HF2.out _) ?_
        rintro e x20 ⟨rfl, hb⟩
        have HX20 : Hid _ := HWW.out.trans (hb.mono HWW.out.size)
        clear hb
        go_wp2_with fail
        refine Calls.mono (HLast.out _) ?_
        rintro e x21 ⟨rfl, hb⟩
        have HX21 : Hid _ := HX20.out.trans (hb.mono HX20.out.size)
        clear hb
        go_wp2
        go_ret
        exact ⟨rfl, HX21.out⟩
  · go_enter Tryd.func11, Tryd.ntmps11
    go_wp2_with fail
    refine Calls.mono HK.out ?_
    rintro e x0 ⟨rfl, hb⟩
    have HXa : Hid _ := hb
    clear hb
    by_cases h1 : 3000 < l.length
    · clear hbig
      go_wp2
      go_ret
      exact ⟨rfl, HXa.out⟩
    · have h2 : 1000 < n := by omega
      clear hbig
      go_wp2
      go_ret
      exact ⟨rfl, HXa.out⟩
end Go.Proofs.YtpffjeoiacaihaaDoor

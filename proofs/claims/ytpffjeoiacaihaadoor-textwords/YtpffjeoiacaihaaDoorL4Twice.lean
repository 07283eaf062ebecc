/-
  Walk of newsreellaw4.TextTwice.
-/
import Derived.Test.YtpffjeoiacaihaaDoorFnTxtRight
import Derived.Test.YtpffjeoiacaihaaDoorL4Kit
namespace Go.Proofs.YtpffjeoiacaihaaDoor
open Go.RowKit NumMath
set_option maxRecDepth 100000
set_option linter.unusedVariables false
set_option linter.unusedSimpArgs false

theorem sp_sum (a b : List Nat) (h : a.length + 1 + b.length ≤ 1000000) : (∀ w, (Op.stringOp BinOp.add (strN a) ⟨#[32]⟩).run Tryd.prog w = .ok (.string (strN (a ++ [32]))) w) ∧ (∀ w, (Op.stringOp BinOp.add (strN (a ++ [32])) (strN b)).run Tryd.prog w = .ok (.string (strN (a ++ (32 :: b)))) w) := by
  refine ⟨fun w => sum_strN a [32] (by simp; omega) w, fun w => ?_⟩
  have := sum_strN (a ++ [32]) b (by simp; omega) w
  rwa [List.append_assoc] at this

set_option maxRecDepth 100000 in
set_option maxHeartbeats 4000000 in
theorem textTwice_walk (s0 s1 : ByteArray) (a2 : Option Addr) (xs2 : List Int) (cap2 : Nat) (W : World) (ht : Tab W) (hs0 : s0.size ≤ 140737488355328) (hs1 : s1.size ≤ 140737488355328) (hr2 : Row .u16 W a2 xs2) (hc2 : xs2.length ≤ cap2) (hm2 : cap2 ≤ maxLen) (hn2 : a2 = none → cap2 = 0) (hw2 : ∀ n ∈ xs2, (Lit.int .u16 n).wf = true) (hs2 : cap2 * 2 ≤ 140737488351232) :
    Calls Tryd.prog 10 #[.string s0, .string s1, .slice a2 xs2.length cap2] W fun e W' => e = .returned (.bool true) ∧ Below W.heap.size W W' := by
  obtain ⟨l, hl, rfl⟩ := any_str s0
  obtain ⟨b, hb0, rfl⟩ := any_str s1
  obtain ⟨ns, rfl, hns⟩ := nats16 hw2
  have hrow := vrow16 hr2
  rw [List.length_map] at hc2 ⊢
  have HK : Hid _ := known_any W ht
  unfold maxLen at hm2
  obtain ⟨n, hn⟩ : ∃ n, n = ns.length := ⟨_, rfl⟩
  have HN : Hid _ := hn
  have HR : Hid _ := hrow
  rw [← hn] at hc2 ⊢
  clear hr2 hw2 hn2 hn hrow ht
  have hsz := strN_size l
  have hsz' := strN_size b
  by_cases hbig : l.length ≤ 2000 ∧ b.length ≤ 2000 ∧ n ≤ 1000
  · obtain ⟨hl1, hl2, hn1⟩ := hbig
    have HT : Hid (∀ w, Below W.heap.size W w → Calls Tryd.prog 27 #[.slice a2 n cap2] w fun e w' => e = .returned (.string (strN (seatT ns))) ∧ Below w.heap.size w w') := by
      intro w hw
      have := seatRunes_any a2 cap2 ns w (VRow.later HR.out hw) hns (by rw [← HN.out]; exact hc2) (by unfold maxLen; omega) (by rw [← HN.out]; omega)
      rw [← HN.out] at this
      exact this
    have htl := seatT_len ns
    rw [← HN.out] at htl
    have htb := seatT_lt ns
    generalize seatT ns = T at *
    have hsum := sum_strN l T (by omega)
    have hAb := app_lt hl htb
    have hAl : (l ++ T).length ≤ 6000 := by rw [List.length_append]; omega
    generalize l ++ T = A at *
    have hcl := cleanB_len A
    have hcb := cleanB_lt A
    have hdl := cleanB_len b
    have hdb := cleanB_lt b
    have hSb : ∀ c ∈ A ++ (32 :: b), c < 256 := app_lt hAb (by intro c hc; rcases List.mem_cons.1 hc with h | h; omega; exact hb0 c h)
    have hSl : (A ++ (32 :: b)).length ≤ 8001 := by rw [List.length_append, List.length_cons]; omega
    have hS1 := sp_sum A b (by omega)
    obtain ⟨hS1a, hS1b⟩ := hS1
    have HF1 : Hid (∀ w, _) := fun w => clean_any A w hAb (by omega)
    have HF2 : Hid (∀ w, _) := fun w => clean_any b w hb0 (by omega)
    have HF3 : Hid (∀ w, _) := fun w => clean_any (TxtMath.cleanB A) w hcb (by omega)
    have HF4 : Hid (∀ w, _) := fun w => runes_any (TxtMath.cleanB A) w hcb (by omega)
    have HF5 : Hid (∀ w, _) := fun w => txtRight_any (TxtMath.cleanB A) ((TxtMath.runes (TxtMath.cleanB A)).length : Nat) w hcb (by omega)
    have HF6 : Hid (∀ w, _) := fun w => runes_any A w hAb (by omega)
    have HF7 : Hid (∀ w, _) := fun w => clean_any (A ++ (32 :: b)) w hSb (by omega)
    have HF8 : Hid (∀ w, _) := fun w => runes_any (A ++ (32 :: b)) w hSb (by omega)
    have HF9 : Hid (∀ w, _) := fun w => runes_any b w hb0 (by omega)
    have hri : TxtMath.rightB (TxtMath.cleanB A) ((TxtMath.runes (TxtMath.cleanB A)).length : Nat) = true := by
      unfold TxtMath.rightB; rw [TxtMath.cleanB_twice]; simp
    rw [TxtMath.cleanB_twice] at HF3
    rw [hri] at HF5
    rw [TxtMath.cleanB_both] at HF7
    rw [TxtMath.runes_blank] at HF8
    simp only [List.length_append, List.length_cons] at HF8
    have hle : (TxtMath.runes (TxtMath.cleanB A)).length ≤ (TxtMath.runes A).length := by rw [TxtMath.runes_clean]; exact TxtMath.clean_len _
    have hrA := TxtMath.runes_len_le A
    have hrb := TxtMath.runes_len_le b
    have hce := strN_empty (TxtMath.cleanB A)
    have hde := strN_empty (TxtMath.cleanB b)
    generalize TxtMath.cleanB A = c at *
    generalize TxtMath.cleanB b = d at *
    generalize (TxtMath.runes c).length = nc at *
    generalize (TxtMath.runes A).length = nA at *
    generalize (TxtMath.runes b).length = nb at *
    have hcd := sum_strN c d (by omega)
    obtain ⟨hcd1, hcd2⟩ := sp_sum c d (by omega)
    have hnn : ((nA + (nb + 1) : Nat) : Int) = (nA : Int) + 1 + (nb : Int) := by omega
    rw [hnn] at HF8
    clear hri hnn
    by_cases hc0 : c = []
    · have hif : (if c = [] ∨ d = [] then c ++ d else c ++ (32 :: d)) = c ++ d := if_pos (.inl hc0)
      rw [hif] at HF7
      rw [decide_eq_true hc0] at hce
      clear hc0 hif hde
      go_enter Tryd.func10, Tryd.ntmps10
      go_wp2_with fail
      refine Calls.mono HK.out ?_
      rintro e x0 ⟨rfl, hb⟩
      have HXa : Hid _ := hb
      clear hb
      go_wp2_with fail
      refine Calls.mono (HT.out _ HXa.out) ?_
      rintro e x1 ⟨rfl, hb⟩
      have HXb : Hid _ := HXa.out.trans (hb.mono HXa.out.size)
      clear hb
      go_wp2_with fail
      refine Calls.mono (HF1.out _) ?_
      rintro e x2 ⟨rfl, hb⟩
      have HX2 : Hid _ := HXb.out.trans (hb.mono HXb.out.size)
      clear hb
      go_wp2_with fail
      refine Calls.mono (HF2.out _) ?_
      rintro e x3 ⟨rfl, hb⟩
      have HX3 : Hid _ := HX2.out.trans (hb.mono HX2.out.size)
      clear hb
      go_wp2_with fail
      refine Calls.mono (HF3.out _) ?_
      rintro e x4 ⟨rfl, hb⟩
      have HX4 : Hid _ := HX3.out.trans (hb.mono HX3.out.size)
      clear hb
      go_wp2_with fail
      refine Calls.mono (HF4.out _) ?_
      rintro e x5 ⟨rfl, hb⟩
      have HX5 : Hid _ := HX4.out.trans (hb.mono HX4.out.size)
      clear hb
      go_wp2_with fail
      refine Calls.mono (HF5.out _) ?_
      rintro e x6 ⟨rfl, hb⟩
      have HX6 : Hid _ := HX5.out.trans (hb.mono HX5.out.size)
      clear hb
      go_wp2_with fail
      refine Calls.mono (HF4.out _) ?_
      rintro e x7 ⟨rfl, hb⟩
      have HX7 : Hid _ := HX6.out.trans (hb.mono HX6.out.size)
      clear hb
      go_wp2_with fail
      refine Calls.mono (HF6.out _) ?_
      rintro e x8 ⟨rfl, hb⟩
      have HX8 : Hid _ := HX7.out.trans (hb.mono HX7.out.size)
      clear hb
      go_wp2_with fail
      refine Calls.mono (HF7.out _) ?_
      rintro e x9 ⟨rfl, hb⟩
      have HX9 : Hid _ := HX8.out.trans (hb.mono HX8.out.size)
      clear hb
      go_wp2_with fail
      refine Calls.mono (HF8.out _) ?_
      rintro e x10 ⟨rfl, hb⟩
      have HX10 : Hid _ := HX9.out.trans (hb.mono HX9.out.size)
      clear hb
      go_wp2_with fail
      refine Calls.mono (HF6.out _) ?_
      rintro e x11 ⟨rfl, hb⟩
      have HX11 : Hid _ := HX10.out.trans (hb.mono HX10.out.size)
      clear hb
      go_wp2_with fail
      refine Calls.mono (HF9.out _) ?_
      rintro e x12 ⟨rfl, hb⟩
      have HX12 : Hid _ := HX11.out.trans (hb.mono HX11.out.size)
      clear hb
      go_wp2
      go_ret
      exact ⟨rfl, HX12.out⟩
    · rw [decide_eq_false hc0] at hce
      by_cases hd0 : d = []
      · have hif : (if c = [] ∨ d = [] then c ++ d else c ++ (32 :: d)) = c ++ d := if_pos (.inr hd0)
        rw [hif] at HF7
        rw [decide_eq_true hd0] at hde
        clear hc0 hd0 hif
        go_enter Tryd.func10, Tryd.ntmps10
        go_wp2_with fail
        refine Calls.mono HK.out ?_
        rintro e x0 ⟨rfl, hb⟩
        have HXa : Hid _ := hb
        clear hb
        go_wp2_with fail
        refine Calls.mono (HT.out _ HXa.out) ?_
        rintro e x1 ⟨rfl, hb⟩
        have HXb : Hid _ := HXa.out.trans (hb.mono HXa.out.size)
        clear hb
        go_wp2_with fail
        refine Calls.mono (HF1.out _) ?_
        rintro e x2 ⟨rfl, hb⟩
        have HX2 : Hid _ := HXb.out.trans (hb.mono HXb.out.size)
        clear hb
        go_wp2_with fail
        refine Calls.mono (HF2.out _) ?_
        rintro e x3 ⟨rfl, hb⟩
        have HX3 : Hid _ := HX2.out.trans (hb.mono HX2.out.size)
        clear hb
        go_wp2_with fail
        refine Calls.mono (HF3.out _) ?_
        rintro e x4 ⟨rfl, hb⟩
        have HX4 : Hid _ := HX3.out.trans (hb.mono HX3.out.size)
        clear hb
        go_wp2_with fail
        refine Calls.mono (HF4.out _) ?_
        rintro e x5 ⟨rfl, hb⟩
        have HX5 : Hid _ := HX4.out.trans (hb.mono HX4.out.size)
        clear hb
        go_wp2_with fail
        refine Calls.mono (HF5.out _) ?_
        rintro e x6 ⟨rfl, hb⟩
        have HX6 : Hid _ := HX5.out.trans (hb.mono HX5.out.size)
        clear hb
        go_wp2_with fail
        refine Calls.mono (HF4.out _) ?_
        rintro e x7 ⟨rfl, hb⟩
        have HX7 : Hid _ := HX6.out.trans (hb.mono HX6.out.size)
        clear hb
        go_wp2_with fail
        refine Calls.mono (HF6.out _) ?_
        rintro e x8 ⟨rfl, hb⟩
        have HX8 : Hid _ := HX7.out.trans (hb.mono HX7.out.size)
        clear hb
        go_wp2_with fail
        refine Calls.mono (HF7.out _) ?_
        rintro e x9 ⟨rfl, hb⟩
        have HX9 : Hid _ := HX8.out.trans (hb.mono HX8.out.size)
        clear hb
        go_wp2_with fail
        refine Calls.mono (HF8.out _) ?_
        rintro e x10 ⟨rfl, hb⟩
        have HX10 : Hid _ := HX9.out.trans (hb.mono HX9.out.size)
        clear hb
        go_wp2_with fail
        refine Calls.mono (HF6.out _) ?_
        rintro e x11 ⟨rfl, hb⟩
        have HX11 : Hid _ := HX10.out.trans (hb.mono HX10.out.size)
        clear hb
        go_wp2_with fail
        refine Calls.mono (HF9.out _) ?_
        rintro e x12 ⟨rfl, hb⟩
        have HX12 : Hid _ := HX11.out.trans (hb.mono HX11.out.size)
        clear hb
        go_wp2
        go_ret
        exact ⟨rfl, HX12.out⟩
      · have hif : (if c = [] ∨ d = [] then c ++ d else c ++ (32 :: d)) = c ++ (32 :: d) := if_neg (by intro h; rcases h with h | h; exact hc0 h; exact hd0 h)
        rw [hif] at HF7
        rw [decide_eq_false hd0] at hde
        clear hc0 hd0 hif
        go_enter Tryd.func10, Tryd.ntmps10
        go_wp2_with fail
        refine Calls.mono HK.out ?_
        rintro e x0 ⟨rfl, hb⟩
        have HXa : Hid _ := hb
        clear hb
        go_wp2_with fail
        refine Calls.mono (HT.out _ HXa.out) ?_
        rintro e x1 ⟨rfl, hb⟩
        have HXb : Hid _ := HXa.out.trans (hb.mono HXa.out.size)
        clear hb
        go_wp2_with fail
        refine Calls.mono (HF1.out _) ?_
        rintro e x2 ⟨rfl, hb⟩
        have HX2 : Hid _ := HXb.out.trans (hb.mono HXb.out.size)
        clear hb
        go_wp2_with fail
        refine Calls.mono (HF2.out _) ?_
        rintro e x3 ⟨rfl, hb⟩
        have HX3 : Hid _ := HX2.out.trans (hb.mono HX2.out.size)
        clear hb
        go_wp2_with fail
        refine Calls.mono (HF3.out _) ?_
        rintro e x4 ⟨rfl, hb⟩
        have HX4 : Hid _ := HX3.out.trans (hb.mono HX3.out.size)
        clear hb
        go_wp2_with fail
        refine Calls.mono (HF4.out _) ?_
        rintro e x5 ⟨rfl, hb⟩
        have HX5 : Hid _ := HX4.out.trans (hb.mono HX4.out.size)
        clear hb
        go_wp2_with fail
        refine Calls.mono (HF5.out _) ?_
        rintro e x6 ⟨rfl, hb⟩
        have HX6 : Hid _ := HX5.out.trans (hb.mono HX5.out.size)
        clear hb
        go_wp2_with fail
        refine Calls.mono (HF4.out _) ?_
        rintro e x7 ⟨rfl, hb⟩
        have HX7 : Hid _ := HX6.out.trans (hb.mono HX6.out.size)
        clear hb
        go_wp2_with fail
        refine Calls.mono (HF6.out _) ?_
        rintro e x8 ⟨rfl, hb⟩
        have HX8 : Hid _ := HX7.out.trans (hb.mono HX7.out.size)
        clear hb
        go_wp2_with fail
        refine Calls.mono (HF7.out _) ?_
        rintro e x9 ⟨rfl, hb⟩
        have HX9 : Hid _ := HX8.out.trans (hb.mono HX8.out.size)
        clear hb
        go_wp2_with fail
        refine Calls.mono (HF8.out _) ?_
        rintro e x10 ⟨rfl, hb⟩
        have HX10 : Hid _ := HX9.out.trans (hb.mono HX9.out.size)
        clear hb
        go_wp2_with fail
        refine Calls.mono (HF6.out _) ?_
        rintro e x11 ⟨rfl, hb⟩
        have HX11 : Hid _ := HX10.out.trans (hb.mono HX10.out.size)
        clear hb
        go_wp2_with fail
        refine Calls.mono (HF9.out _) ?_
        rintro e x12 ⟨rfl, hb⟩
        have HX12 : Hid _ := HX11.out.trans (hb.mono HX11.out.size)
        clear hb
        go_wp2
        go_ret
        exact ⟨rfl, HX12.out⟩
  · go_enter Tryd.func10, Tryd.ntmps10
    go_wp2_with fail
    refine Calls.mono HK.out ?_
    rintro e x0 ⟨rfl, hb⟩
    have HXa : Hid _ := hb
    clear hb
    by_cases h1 : 2000 < l.length
    · clear hbig
      go_wp2
      go_ret
      exact ⟨rfl, HXa.out⟩
    · by_cases h2 : 2000 < b.length
      · clear hbig
        go_wp2
        go_ret
        exact ⟨rfl, HXa.out⟩
      · have h3 : 1000 < n := by omega
        clear hbig
        go_wp2
        go_ret
        exact ⟨rfl, HXa.out⟩
end Go.Proofs.YtpffjeoiacaihaaDoor

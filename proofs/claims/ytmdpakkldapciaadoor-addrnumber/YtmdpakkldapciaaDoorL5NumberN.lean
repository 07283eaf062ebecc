/-
  Walk of newsreellaw5.AddrNumber.
-/
import Derived.Test.YtmdpakkldapciaaDoorL5NumM
import Derived.Test.YtmdpakkldapciaaDoorFnRefH
import Derived.Test.YtmdpakkldapciaaDoorFnPlace
import Derived.Test.YtmdpakkldapciaaDoorL5Known
import Derived.Test.YtmdpakkldapciaaDoorSeatAddr
import Derived.Test.YtmdpakkldapciaaDoorFnDec
namespace Go.Proofs.YtmdpakkldapciaaDoor
open Go.RowKit NumMath
open AddrMath (parse hostOf colon http https Sch)
set_option maxRecDepth 100000
set_option linter.unusedVariables false
set_option linter.unusedSimpArgs false

/-- What follows an address's host, as the law cuts it. -/
def restOf (A : List Nat) : List Nat := if (A.drop (7 + (hostOf A).length)).head? = some 47 then A.drop (7 + (hostOf A).length) else (A.drop (7 + (hostOf A).length)).tail
theorem restOf_is : ∀ A ∈ addrs, 7 + (hostOf A).length < A.length ∧ (rests.any fun r => decide (restOf A = r.1 ++ r.2)) = true := by decide +kernel

set_option maxRecDepth 100000 in
set_option maxHeartbeats 16000000 in
theorem addrNumber_N (n0 : Int) (s2 : ByteArray) (n3 : Int) (W : World) (ht : MaxLen W) (w0 : (Lit.int .i64 n0).wf = true) (hs2 : s2.size ≤ 140737488355328) (w3 : (Lit.int .u8 n3).wf = true) :
    Calls Tryd.prog 5 #[.int .i64 n0, .bool false, .string s2, .int .u8 n3] W fun e W' => e = .returned (.bool true) ∧ Below W.heap.size W W' := by
  obtain ⟨s, hsb, rfl⟩ := any_str s2
  have hb0 := bounds_i64 w0
  have hb3 := bounds_u8 w3
  obtain ⟨j, rfl⟩ : ∃ n : Nat, n3 = (n : Int) := ⟨n3.toNat, by omega⟩
  have hj : j < 256 := by omega
  have HT : Hid _ := ht
  have HK : Hid _ := known_any W ht
  have hsz := strN_size s
  obtain ⟨p, hpv, hp⟩ : ∃ p : Nat, n0 % 70000 = (p : Int) ∧ p < 70000 := ⟨(n0 % 70000).toNat, by omega, by omega⟩
  have HPl : Hid (∀ w, Calls Tryd.prog 20 #[.int .i64 n0, .int .i64 70000] w fun e w' => e = .returned (.int .i64 (p : Int)) ∧ w' = w) := by
    intro w
    have := place_any n0 70000 w hb0.1 hb0.2 (by omega) (by omega)
    rw [show n0 % ((70000 : Nat) : Int) = (p : Int) from hpv] at this
    exact this
  clear w0 w3 ht hb3 hs2 hpv
  by_cases hbig : s.length ≤ 300
  · have HAd : Hid (∀ w, _) := fun w => seatAddr_any j w hj
    obtain ⟨hab, hal, _⟩ := addrs_lt _ (seatA5_mem j)
    obtain ⟨hlt, hany⟩ := restOf_is _ (seatA5_mem j)
    generalize seatA5 j = A at *
    obtain ⟨r, hr, hrr⟩ := List.any_eq_true.1 hany
    have hrr := of_decide_eq_true hrr
    have hrest : restOf A = if (A.drop (7 + (hostOf A).length)).head? = some 47 then A.drop (7 + (hostOf A).length) else (A.drop (7 + (hostOf A).length)).tail := rfl
    rw [hrr] at hrest
    have hS : Sch http := .inl rfl
    have hpp := parse_port hS hr p (by omega)
    have hpb := parse_bare hS hr
    obtain ⟨_, _, _, _, _, hRl, hRb⟩ := rest_parts r hr
    have hus : usualN http = 80 := rfl
    rw [hus] at hpp
    have hdl := decL_len 4 p (by simp; omega)
    have hdb := decL_lt p
    have HQc : Hid (∀ w, _) := fun w => dec_any p w (by omega)
    have HHo : Hid (∀ w, MaxLen w → _) := fun w ht => host_any A w ht hab (by omega)
    have hhz := strN_size (hostOf A)
    have hs0 : ∀ w, (Instr.sliceAt 9 (.string (strN A)) (some (.int .i64 (7 + ((hostOf A).length : Int)))) none none).run Tryd.prog w = .ok (.string (strN (A.drop (7 + (hostOf A).length)))) w := by
      intro w
      rw [show (7 + ((hostOf A).length : Int)) = ((7 + (hostOf A).length : Nat) : Int) by omega]
      exact slice_from (w := w) A _ (7 + (hostOf A).length) (by omega) rfl
    have hR0l : (A.drop (7 + (hostOf A).length)).length = A.length - (7 + (hostOf A).length) := List.length_drop
    have hR0b : ∀ c ∈ A.drop (7 + (hostOf A).length), c < 256 := fun c hc => hab c (List.mem_of_mem_drop hc)
    have hR0p : 0 < (A.drop (7 + (hostOf A).length)).length := by omega
    generalize A.drop (7 + (hostOf A).length) = R0 at *
    generalize decL p = dp at *
    generalize r.1 ++ r.2 = R at *
    generalize hostOf A = h at *
    obtain ⟨hl, hhl⟩ : ∃ n, n = h.length := ⟨_, rfl⟩
    rw [← hhl] at hhz hs0 hlt
    obtain ⟨c0, R1, hR0⟩ : ∃ c t, R0 = c :: t := by cases R0 with | nil => simp at hR0p | cons c t => exact ⟨c, t, rfl⟩
    have hix : ∀ w, (Instr.index 9 (.string (strN R0)) (.int .i64 0)).run Tryd.prog w = .ok (.int .u8 (c0 : Int)) w := by
      intro w
      have := index_strN R0 hR0b 0 (by omega) .i64 w
      rw [hR0] at this ⊢
      exact this
    have hs1 : ∀ w, (Instr.sliceAt 9 (.string (strN R0)) (some (.int .i64 1)) none none).run Tryd.prog w = .ok (.string (strN R1)) w := fun w => slice_from (w := w) R0 R1 1 (by omega) (by rw [hR0]; rfl)
    rw [hR0] at hrest
    simp only [List.head?_cons, Option.some.injEq, List.tail_cons] at hrest
    rw [← hR0] at hrest
    have hc0b : c0 < 256 := hR0b c0 (by rw [hR0]; simp)
    have hR0z := strN_size R0
    -- the texts
    obtain ⟨U1, hU1⟩ : ∃ x, x = [104, 116, 116, 112] ++ [58, 47, 47, 120, 46, 121, 58] := ⟨_, rfl⟩
    obtain ⟨U2, hU2⟩ : ∃ x, x = U1 ++ dp := ⟨_, rfl⟩
    obtain ⟨U3, hU3⟩ : ∃ x, x = U2 ++ R := ⟨_, rfl⟩
    obtain ⟨B1, hB1⟩ : ∃ x, x = [104, 116, 116, 112] ++ [58, 47, 47, 120, 46, 121] := ⟨_, rfl⟩
    obtain ⟨B2, hB2⟩ : ∃ x, x = B1 ++ R := ⟨_, rfl⟩
    obtain ⟨V2, hV2⟩ : ∃ x, x = U1 ++ s := ⟨_, rfl⟩
    obtain ⟨X1, hX1⟩ : ∃ x, x = [104, 116, 116, 112] ++ [58, 47, 47, 120, 46, 121, 58, 48] := ⟨_, rfl⟩
    obtain ⟨X2, hX2⟩ : ∃ x, x = X1 ++ dp := ⟨_, rfl⟩
    have kU1 : ∀ w, (Op.stringOp BinOp.add ⟨#[104, 116, 116, 112]⟩ ⟨#[58, 47, 47, 120, 46, 121, 58]⟩).run Tryd.prog w = .ok (.string (strN U1)) w := by rw [hU1]; exact fun w => sum_strN [104, 116, 116, 112] [58, 47, 47, 120, 46, 121, 58] (by decide) w
    have kU2 : ∀ w, (Op.stringOp BinOp.add (strN U1) (strN dp)).run Tryd.prog w = .ok (.string (strN U2)) w := by rw [hU2]; exact sum_strN U1 dp (by rw [hU1]; simp; omega)
    have kU3 : ∀ w, (Op.stringOp BinOp.add (strN U2) (strN R)).run Tryd.prog w = .ok (.string (strN U3)) w := by rw [hU3]; exact sum_strN U2 R (by rw [hU2, hU1]; simp; omega)
    have kB1 : ∀ w, (Op.stringOp BinOp.add ⟨#[104, 116, 116, 112]⟩ ⟨#[58, 47, 47, 120, 46, 121]⟩).run Tryd.prog w = .ok (.string (strN B1)) w := by rw [hB1]; exact fun w => sum_strN [104, 116, 116, 112] [58, 47, 47, 120, 46, 121] (by decide) w
    have kB2 : ∀ w, (Op.stringOp BinOp.add (strN B1) (strN R)).run Tryd.prog w = .ok (.string (strN B2)) w := by rw [hB2]; exact sum_strN B1 R (by rw [hB1]; simp; omega)
    have kV2 : ∀ w, (Op.stringOp BinOp.add (strN U1) (strN s)).run Tryd.prog w = .ok (.string (strN V2)) w := by rw [hV2]; exact sum_strN U1 s (by rw [hU1]; simp; omega)
    have kX1 : ∀ w, (Op.stringOp BinOp.add ⟨#[104, 116, 116, 112]⟩ ⟨#[58, 47, 47, 120, 46, 121, 58, 48]⟩).run Tryd.prog w = .ok (.string (strN X1)) w := by rw [hX1]; exact fun w => sum_strN [104, 116, 116, 112] [58, 47, 47, 120, 46, 121, 58, 48] (by decide) w
    have kX2 : ∀ w, (Op.stringOp BinOp.add (strN X1) (strN dp)).run Tryd.prog w = .ok (.string (strN X2)) w := by rw [hX2]; exact sum_strN X1 dp (by rw [hX1]; simp; omega)
    have hpp2 : parse U3 = if p = 80 then (B2, 0) else if p < 1 ∨ 65535 < p then ([], 25) else (U3, 0) := by
      have e1 : U3 = http ++ (colon ++ (xy ++ ((58 :: dp) ++ R))) := by rw [hU3, hU2, hU1]; simp [http, colon, xy]
      have e2 : B2 = http ++ (colon ++ (xy ++ R)) := by rw [hB2, hB1]; simp [http, colon, xy]
      rw [e1, e2]; exact hpp
    have hpb2 : parse B2 = (B2, 0) := by
      have e2 : B2 = http ++ (colon ++ (xy ++ R)) := by rw [hB2, hB1]; simp [http, colon, xy]
      rw [e2]; exact hpb
    have hU1b : ∀ c ∈ U1, c < 256 := by rw [hU1]; decide
    have hX1b : ∀ c ∈ X1, c < 256 := by rw [hX1]; decide
    have hB1b : ∀ c ∈ B1, c < 256 := by rw [hB1]; decide
    have hU3b : ∀ c ∈ U3, c < 256 := by rw [hU3, hU2]; exact app_lt (app_lt hU1b hdb) hRb
    have hB2b : ∀ c ∈ B2, c < 256 := by rw [hB2]; exact app_lt hB1b hRb
    have hU1l : U1.length ≤ 12 := by rw [hU1]; decide
    have hX1l : X1.length ≤ 13 := by rw [hX1]; decide
    have hB1l : B1.length = 10 := by rw [hB1]; rfl
    have HPb : Hid (∀ w, MaxLen w → Calls Tryd.prog 15 #[.string (strN B2)] w fun e w' => e = .returned (.tuple #[.string (strN B2), .int .i64 0]) ∧ Below w.heap.size w w') := fun w ht => parse_at B2 B2 0 w ht hB2b (by rw [hB2]; simp; omega) hpb2
    have HPv : Hid (∀ w, MaxLen w → _) := fun w ht => parses_any V2 w ht (by rw [hV2]; exact app_lt hU1b hsb) (by rw [hV2]; simp; omega)
    have HPx : Hid (∀ w, MaxLen w → _) := fun w ht => parses_any X2 w ht (by rw [hX2]; exact app_lt hX1b hdb) (by rw [hX2]; simp; omega)
    have hU3l : U3.length ≤ 100 := by rw [hU3, hU2]; simp; omega
    have hB2z := strN_size B2
    have hB2l : 10 ≤ B2.length := by rw [hB2]; simp; omega
    have hsB : ∀ w, (Instr.sliceAt 9 (.string (strN B2)) (some (.int .i64 10)) none none).run Tryd.prog w = .ok (.string (strN R)) w := fun w => slice_from (w := w) B2 R 10 hB2l (by rw [hB2, ← hB1l, List.drop_left])
    have hbb : ((strN B2).toList == (strN B2).toList) = true := by simp
    have huu : ((strN U3).toList == (strN U3).toList) = true := by simp
    have hnil : ((strN ([] : List Nat)).toList == ([] : List UInt8)) = true := by rw [eq_lit [] [] rfl (by simp) (by simp)]; rfl
    clear hpp hpb hpb2 hU1 hU2 hB1 hB2 hV2 hX1 hX2 hU3 hhl hany hrr hS hR0 hR0p hr hus
    have hcases : (p = 80 ∧ Hid (parse U3 = (B2, 0))) ∨ ((¬ p = 80 ∧ (p < 1 ∨ 65535 < p)) ∧ Hid (parse U3 = ([], 25))) ∨ ((¬ p = 80 ∧ ¬ (p < 1 ∨ 65535 < p)) ∧ Hid (parse U3 = (U3, 0))) := by
      by_cases h1 : p = 80
      · exact .inl ⟨h1, by rw [if_pos h1] at hpp2; exact hpp2⟩
      · rw [if_neg h1] at hpp2
        by_cases h2 : p < 1 ∨ 65535 < p
        · exact .inr (.inl ⟨⟨h1, h2⟩, by rw [if_pos h2] at hpp2; exact hpp2⟩)
        · exact .inr (.inr ⟨⟨h1, h2⟩, by rw [if_neg h2] at hpp2; exact hpp2⟩)
    have hc47 : (((c0 : Int) == 47) = true ∧ Hid (R = R0)) ∨ (((c0 : Int) == 47) = false ∧ Hid (R = R1)) := by
      by_cases h : c0 = 47
      · rw [if_pos h] at hrest
        exact .inl ⟨by simp [h], hrest⟩
      · rw [if_neg h] at hrest
        exact .inr ⟨by simp; omega, hrest⟩
    have HU3b : Hid _ := hU3b
    clear hpp2 hrest hab hR0b hRb hU1b hX1b hB1b hU3b hB2b hdb hsb
    rcases hc47 with ⟨hq47, HRR⟩ | ⟨hq47, HRR⟩
    all_goals
      have hRR := HRR.out
      subst hRR
      rcases hcases with ⟨hp1, HPU⟩ | ⟨⟨hp1, hp2⟩, HPU⟩ | ⟨⟨hp1, hp2⟩, HPU⟩
      · have HPu : Hid (∀ w, MaxLen w → Calls Tryd.prog 15 #[.string (strN U3)] w fun e w' => e = .returned (.tuple #[.string (strN B2), .int .i64 0]) ∧ Below w.heap.size w w') := fun w ht => parse_at U3 B2 0 w ht HU3b.out (by omega) HPU.out
        have hpn : ((p : Int) == 80) = true := by simp [hp1]
        clear hp1
        go_enter Tryd.func5, Tryd.ntmps5
        go_wp2_with fail
        refine Calls.mono HK.out ?_
        rintro e w1 ⟨rfl, hb⟩
        have HB1 : Hid (Below W.heap.size W w1) := hb
        clear hb
        go_wp2_with fail
        refine Calls.mono (HPl.out _) ?_
        rintro e wz ⟨rfl, hw⟩
        rw [hw]
        clear hw
        clear wz
        go_wp2_with fail
        refine Calls.mono (HAd.out _) ?_
        rintro e w2 ⟨rfl, hb⟩
        have HB2 : Hid (Below W.heap.size W w2) := HB1.out.trans (hb.mono HB1.out.size)
        clear hb
        go_wp2_with fail
        refine Calls.mono (HHo.out _ (MaxLen.later HT.out HB2.out)) ?_
        rintro e w3 ⟨rfl, hb⟩
        have HB3 : Hid (Below W.heap.size W w3) := HB2.out.trans (hb.mono HB2.out.size)
        clear hb
        go_wp2_with fail
        refine Calls.mono (HQc.out _) ?_
        rintro e wz ⟨rfl, hw⟩
        rw [hw]
        clear hw
        clear wz
        go_wp2_with fail
        refine Calls.mono (HPu.out _ (MaxLen.later HT.out HB3.out)) ?_
        rintro e w4 ⟨rfl, hb⟩
        have HB4 : Hid (Below W.heap.size W w4) := HB3.out.trans (hb.mono HB3.out.size)
        clear hb
        go_wp2_with fail
        refine Calls.mono (HPb.out _ (MaxLen.later HT.out HB4.out)) ?_
        rintro e w5 ⟨rfl, hb⟩
        have HB5 : Hid (Below W.heap.size W w5) := HB4.out.trans (hb.mono HB4.out.size)
        clear hb
        go_wp2_with fail
        refine Calls.mono (HPv.out _ (MaxLen.later HT.out HB5.out)) ?_
        rintro e w6 ⟨rfl, hb⟩
        have HB6 : Hid (Below W.heap.size W w6) := HB5.out.trans (hb.mono HB5.out.size)
        clear hb
        go_wp2_with fail
        refine Calls.mono (HQc.out _) ?_
        rintro e wz ⟨rfl, hw⟩
        rw [hw]
        clear hw
        clear wz
        go_wp2_with fail
        refine Calls.mono (HPx.out _ (MaxLen.later HT.out HB6.out)) ?_
        rintro e w7 ⟨rfl, hb⟩
        have HB7 : Hid (Below W.heap.size W w7) := HB6.out.trans (hb.mono HB6.out.size)
        clear hb
        go_wp2
        go_ret
        exact ⟨rfl, HB7.out⟩
      · have HPu : Hid (∀ w, MaxLen w → Calls Tryd.prog 15 #[.string (strN U3)] w fun e w' => e = .returned (.tuple #[.string (strN []), .int .i64 25]) ∧ Below w.heap.size w w') := fun w ht => parse_at U3 [] 25 w ht HU3b.out (by omega) HPU.out
        have hpn : ((p : Int) == 80) = false := by simp; omega
        have hp3 : (p : Int) < 1 ∨ (1 ≤ (p : Int) ∧ 65535 < (p : Int)) := by omega
        clear hp1 hp2
        rcases hp3 with hp3 | ⟨hp3, hp4⟩
        all_goals
          go_enter Tryd.func5, Tryd.ntmps5
          go_wp2_with fail
          refine Calls.mono HK.out ?_
          rintro e w1 ⟨rfl, hb⟩
          have HB1 : Hid (Below W.heap.size W w1) := hb
          clear hb
          go_wp2_with fail
          refine Calls.mono (HPl.out _) ?_
          rintro e wz ⟨rfl, hw⟩
          rw [hw]
          clear hw
          clear wz
          go_wp2_with fail
          refine Calls.mono (HAd.out _) ?_
          rintro e w2 ⟨rfl, hb⟩
          have HB2 : Hid (Below W.heap.size W w2) := HB1.out.trans (hb.mono HB1.out.size)
          clear hb
          go_wp2_with fail
          refine Calls.mono (HHo.out _ (MaxLen.later HT.out HB2.out)) ?_
          rintro e w3 ⟨rfl, hb⟩
          have HB3 : Hid (Below W.heap.size W w3) := HB2.out.trans (hb.mono HB2.out.size)
          clear hb
          go_wp2_with fail
          refine Calls.mono (HQc.out _) ?_
          rintro e wz ⟨rfl, hw⟩
          rw [hw]
          clear hw
          clear wz
          go_wp2_with fail
          refine Calls.mono (HPu.out _ (MaxLen.later HT.out HB3.out)) ?_
          rintro e w4 ⟨rfl, hb⟩
          have HB4 : Hid (Below W.heap.size W w4) := HB3.out.trans (hb.mono HB3.out.size)
          clear hb
          go_wp2_with fail
          refine Calls.mono (HPb.out _ (MaxLen.later HT.out HB4.out)) ?_
          rintro e w5 ⟨rfl, hb⟩
          have HB5 : Hid (Below W.heap.size W w5) := HB4.out.trans (hb.mono HB4.out.size)
          clear hb
          go_wp2_with fail
          refine Calls.mono (HPv.out _ (MaxLen.later HT.out HB5.out)) ?_
          rintro e w6 ⟨rfl, hb⟩
          have HB6 : Hid (Below W.heap.size W w6) := HB5.out.trans (hb.mono HB5.out.size)
          clear hb
          go_wp2_with fail
          refine Calls.mono (HQc.out _) ?_
          rintro e wz ⟨rfl, hw⟩
          rw [hw]
          clear hw
          clear wz
          go_wp2_with fail
          refine Calls.mono (HPx.out _ (MaxLen.later HT.out HB6.out)) ?_
          rintro e w7 ⟨rfl, hb⟩
          have HB7 : Hid (Below W.heap.size W w7) := HB6.out.trans (hb.mono HB6.out.size)
          clear hb
          go_wp2
          go_ret
          exact ⟨rfl, HB7.out⟩
      · have HPu : Hid (∀ w, MaxLen w → Calls Tryd.prog 15 #[.string (strN U3)] w fun e w' => e = .returned (.tuple #[.string (strN U3), .int .i64 0]) ∧ Below w.heap.size w w') := fun w ht => parse_at U3 U3 0 w ht HU3b.out (by omega) HPU.out
        have hpn : ((p : Int) == 80) = false := by simp; omega
        have hp3 : 1 ≤ (p : Int) := by omega
        have hp4 : (p : Int) ≤ 65535 := by omega
        clear hp1 hp2
        go_enter Tryd.func5, Tryd.ntmps5
        go_wp2_with fail
        refine Calls.mono HK.out ?_
        rintro e w1 ⟨rfl, hb⟩
        have HB1 : Hid (Below W.heap.size W w1) := hb
        clear hb
        go_wp2_with fail
        refine Calls.mono (HPl.out _) ?_
        rintro e wz ⟨rfl, hw⟩
        rw [hw]
        clear hw
        clear wz
        go_wp2_with fail
        refine Calls.mono (HAd.out _) ?_
        rintro e w2 ⟨rfl, hb⟩
        have HB2 : Hid (Below W.heap.size W w2) := HB1.out.trans (hb.mono HB1.out.size)
        clear hb
        go_wp2_with fail
        refine Calls.mono (HHo.out _ (MaxLen.later HT.out HB2.out)) ?_
        rintro e w3 ⟨rfl, hb⟩
        have HB3 : Hid (Below W.heap.size W w3) := HB2.out.trans (hb.mono HB2.out.size)
        clear hb
        go_wp2_with fail
        refine Calls.mono (HQc.out _) ?_
        rintro e wz ⟨rfl, hw⟩
        rw [hw]
        clear hw
        clear wz
        go_wp2_with fail
        refine Calls.mono (HPu.out _ (MaxLen.later HT.out HB3.out)) ?_
        rintro e w4 ⟨rfl, hb⟩
        have HB4 : Hid (Below W.heap.size W w4) := HB3.out.trans (hb.mono HB3.out.size)
        clear hb
        go_wp2_with fail
        refine Calls.mono (HPb.out _ (MaxLen.later HT.out HB4.out)) ?_
        rintro e w5 ⟨rfl, hb⟩
        have HB5 : Hid (Below W.heap.size W w5) := HB4.out.trans (hb.mono HB4.out.size)
        clear hb
        go_wp2_with fail
        refine Calls.mono (HPv.out _ (MaxLen.later HT.out HB5.out)) ?_
        rintro e w6 ⟨rfl, hb⟩
        have HB6 : Hid (Below W.heap.size W w6) := HB5.out.trans (hb.mono HB5.out.size)
        clear hb
        go_wp2_with fail
        refine Calls.mono (HQc.out _) ?_
        rintro e wz ⟨rfl, hw⟩
        rw [hw]
        clear hw
        clear wz
        go_wp2_with fail
        refine Calls.mono (HPx.out _ (MaxLen.later HT.out HB6.out)) ?_
        rintro e w7 ⟨rfl, hb⟩
        have HB7 : Hid (Below W.heap.size W w7) := HB6.out.trans (hb.mono HB6.out.size)
        clear hb
        have hwr : IntKind.i64.wrap 10 = 10 := by decide
        go_wp2_with fail
        refine wp_region_held_drew (S := fun w' => Below W.heap.size W w') (by kernel_rfl) (Below.drew HB7.out) (fun hS => ?_)
        refine wpAnyH_take (i := 0) (v := ?_) rfl (by kernel_rfl) (by kernel_rfl) (by kernel_rfl) (fun _ _ _ h => h) (Or.inl ⟨by rfl, ?_⟩) hS ?_
        rotate_left 1
        · intro w hSw; (try dsimp only at hSw); go_simp <;> with_reducible rfl
        simp only [List.getElem_toArray, List.getElem_cons_zero, List.getElem_cons_succ, Act.put, List.setIfInBounds_toArray, List.set_cons_zero, List.set_cons_succ]
        refine wpAnyH_take (i := 1) (v := ?_) rfl (by kernel_rfl) (by kernel_rfl) (by kernel_rfl) (fun _ _ _ h => h) (Or.inl ⟨by rfl, ?_⟩) hS ?_
        rotate_left 1
        · intro w hSw; (try dsimp only at hSw); go_simp <;> with_reducible rfl
        simp only [List.getElem_toArray, List.getElem_cons_zero, List.getElem_cons_succ, Act.put, List.setIfInBounds_toArray, List.set_cons_zero, List.set_cons_succ]
        refine wpAnyH_take (i := 2) (v := ?_) rfl (by kernel_rfl) (by kernel_rfl) (by kernel_rfl) (fun _ _ _ h => h) (Or.inl ⟨by rfl, ?_⟩) hS ?_
        rotate_left 1
        · intro w hSw; (try dsimp only at hSw); go_simp <;> with_reducible rfl
        simp only [List.getElem_toArray, List.getElem_cons_zero, List.getElem_cons_succ, Act.put, List.setIfInBounds_toArray, List.set_cons_zero, List.set_cons_succ]
        refine wpAnyH_take (i := 3) (v := ?_) rfl (by kernel_rfl) (by kernel_rfl) (by kernel_rfl) (fun _ _ _ h => h) (Or.inl ⟨by rfl, ?_⟩) hS ?_
        rotate_left 1
        · intro w hSw; (try dsimp only at hSw); go_simp <;> with_reducible rfl
        simp only [List.getElem_toArray, List.getElem_cons_zero, List.getElem_cons_succ, Act.put, List.setIfInBounds_toArray, List.set_cons_zero, List.set_cons_succ]
        refine wpAnyH_take (i := 4) (v := ?_) rfl (by kernel_rfl) (by kernel_rfl) (by kernel_rfl) (fun _ _ _ h => h) (Or.inl ⟨by rfl, ?_⟩) hS ?_
        rotate_left 1
        · intro w hSw; (try dsimp only at hSw); go_simp <;> with_reducible rfl
        simp only [List.getElem_toArray, List.getElem_cons_zero, List.getElem_cons_succ, Act.put, List.setIfInBounds_toArray, List.set_cons_zero, List.set_cons_succ]
        refine wpAnyH_take (i := 5) (v := ?_) rfl (by kernel_rfl) (by kernel_rfl) (by kernel_rfl) (fun _ _ _ h => h) (Or.inl ⟨by rfl, ?_⟩) hS ?_
        rotate_left 1
        · intro w hSw; (try dsimp only at hSw); go_simp <;> with_reducible rfl
        simp only [List.getElem_toArray, List.getElem_cons_zero, List.getElem_cons_succ, Act.put, List.setIfInBounds_toArray, List.set_cons_zero, List.set_cons_succ]
        refine wpAnyH_take (i := 6) (v := ?_) rfl (by kernel_rfl) (by kernel_rfl) (by kernel_rfl) (fun _ _ _ h => h) (Or.inl ⟨by rfl, ?_⟩) hS ?_
        rotate_left 1
        · intro w hSw; (try dsimp only at hSw); go_simp <;> with_reducible rfl
        simp only [List.getElem_toArray, List.getElem_cons_zero, List.getElem_cons_succ, Act.put, List.setIfInBounds_toArray, List.set_cons_zero, List.set_cons_succ]
        refine wpAnyH_take (i := 9) (v := ?_) rfl (by kernel_rfl) (by kernel_rfl) (by kernel_rfl) (fun _ _ _ h => h) (Or.inl ⟨by rfl, ?_⟩) hS ?_
        rotate_left 1
        · intro w hSw; (try dsimp only at hSw); go_simp <;> with_reducible rfl
        simp only [List.getElem_toArray, List.getElem_cons_zero, List.getElem_cons_succ, Act.put, List.setIfInBounds_toArray, List.set_cons_zero, List.set_cons_succ]
        refine wpAnyH_take (i := 10) (v := ?_) rfl (by kernel_rfl) (by kernel_rfl) (by kernel_rfl) (fun _ _ _ h => h) (Or.inl ⟨by rfl, ?_⟩) hS ?_
        rotate_left 1
        · intro w hSw; (try dsimp only at hSw); go_simp <;> with_reducible rfl
        simp only [List.getElem_toArray, List.getElem_cons_zero, List.getElem_cons_succ, Act.put, List.setIfInBounds_toArray, List.set_cons_zero, List.set_cons_succ]
        refine wpAnyH_take (i := 11) (v := ?_) rfl (by kernel_rfl) (by kernel_rfl) (by kernel_rfl) (fun _ _ _ h => h) (Or.inl ⟨by rfl, ?_⟩) hS ?_
        rotate_left 1
        · intro w hSw; (try dsimp only at hSw); go_simp <;> with_reducible rfl
        simp only [List.getElem_toArray, List.getElem_cons_zero, List.getElem_cons_succ, Act.put, List.setIfInBounds_toArray, List.set_cons_zero, List.set_cons_succ]
        refine wpAnyH_take (i := 12) (v := ?_) rfl (by kernel_rfl) (by kernel_rfl) (by kernel_rfl) (fun _ _ _ h => h) (Or.inl ⟨by rfl, ?_⟩) hS ?_
        rotate_left 1
        · intro w hSw; (try dsimp only at hSw); go_simp <;> with_reducible rfl
        simp only [List.getElem_toArray, List.getElem_cons_zero, List.getElem_cons_succ, Act.put, List.setIfInBounds_toArray, List.set_cons_zero, List.set_cons_succ]
        refine wpAnyH_take (i := 13) (v := ?_) rfl (by kernel_rfl) (by kernel_rfl) (by kernel_rfl) (fun _ _ _ h => h) (Or.inl ⟨by rfl, ?_⟩) hS ?_
        rotate_left 1
        · intro w hSw; (try dsimp only at hSw); go_simp <;> with_reducible rfl
        simp only [List.getElem_toArray, List.getElem_cons_zero, List.getElem_cons_succ, Act.put, List.setIfInBounds_toArray, List.set_cons_zero, List.set_cons_succ]
        refine wpAnyH_ready (rs := [7]) (by kernel_rfl) (by simp) ?_
        refine AllReadyH.cons rfl (fun K hK => ?_) AllReadyH.nil
        go_simp
        refine Calls.mono (HQc.out _) ?_
        rintro e wz ⟨rfl, hw⟩
        rw [hw]
        clear hw
        clear wz
        refine hK.out _ _ hS (fun hS => ?_)
        clear hK K
        refine wpAnyH_take (i := 8) (v := ?_) rfl (by kernel_rfl) (by kernel_rfl) (by kernel_rfl) (fun _ _ _ h => h) (Or.inl ⟨by rfl, ?_⟩) hS ?_
        rotate_left 1
        · intro w hSw; (try dsimp only at hSw); go_simp <;> with_reducible rfl
        simp only [List.getElem_toArray, List.getElem_cons_zero, List.getElem_cons_succ, Act.put, List.setIfInBounds_toArray, List.set_cons_zero, List.set_cons_succ]
        refine wpAnyH_take (i := 14) (v := ?_) rfl (by kernel_rfl) (by kernel_rfl) (by kernel_rfl) (fun _ _ _ h => h) (Or.inl ⟨by rfl, ?_⟩) hS ?_
        rotate_left 1
        · intro w hSw; (try dsimp only at hSw); go_simp <;> with_reducible rfl
        simp only [List.getElem_toArray, List.getElem_cons_zero, List.getElem_cons_succ, Act.put, List.setIfInBounds_toArray, List.set_cons_zero, List.set_cons_succ]
        refine wpAnyH_take (i := 15) (v := ?_) rfl (by kernel_rfl) (by kernel_rfl) (by kernel_rfl) (fun _ _ _ h => h) (Or.inl ⟨by rfl, ?_⟩) hS ?_
        rotate_left 1
        · intro w hSw; (try dsimp only at hSw); go_simp <;> with_reducible rfl
        simp only [List.getElem_toArray, List.getElem_cons_zero, List.getElem_cons_succ, Act.put, List.setIfInBounds_toArray, List.set_cons_zero, List.set_cons_succ]
        refine wpAnyH_take (i := 16) (v := ?_) rfl (by kernel_rfl) (by kernel_rfl) (by kernel_rfl) (fun _ _ _ h => h) (Or.inl ⟨by rfl, ?_⟩) hS ?_
        rotate_left 1
        · intro w hSw; (try dsimp only at hSw); go_simp <;> with_reducible rfl
        simp only [List.getElem_toArray, List.getElem_cons_zero, List.getElem_cons_succ, Act.put, List.setIfInBounds_toArray, List.set_cons_zero, List.set_cons_succ]
        refine wpAnyH_take (i := 17) (v := ?_) rfl (by kernel_rfl) (by kernel_rfl) (by kernel_rfl) (fun _ _ _ h => h) (Or.inl ⟨by rfl, ?_⟩) hS ?_
        rotate_left 1
        · intro w hSw; (try dsimp only at hSw); go_simp <;> with_reducible rfl
        simp only [List.getElem_toArray, List.getElem_cons_zero, List.getElem_cons_succ, Act.put, List.setIfInBounds_toArray, List.set_cons_zero, List.set_cons_succ]
        refine wpAnyH_done (by kernel_rfl) ?_ _
        have HBZ : Hid _ := hS
        clear hS
        go_wp2
        go_ret
        exact ⟨rfl, HBZ.out⟩
  · go_enter Tryd.func5, Tryd.ntmps5
    go_wp2_with fail
    refine Calls.mono HK.out ?_
    rintro e w1 ⟨rfl, hb⟩
    have HB1 : Hid (Below W.heap.size W w1) := hb
    clear hb
    go_wp2
    go_ret
    exact ⟨rfl, HB1.out⟩
end Go.Proofs.YtmdpakkldapciaaDoor

/-
  Walk of newsreellaw5.AddrTwice.
-/
import Derived.Test.YtmdpakkldapciaaDoorFnRefH
import Derived.Test.YtmdpakkldapciaaDoorL5Wild
namespace Go.Proofs.YtmdpakkldapciaaDoor
open Go.RowKit NumMath
open AddrMath (parse right hostOf colon http https)
set_option maxRecDepth 100000
set_option linter.unusedVariables false
set_option linter.unusedSimpArgs false

/-- What a form shows of itself. -/
theorem form_shows {v f : List Nat} (h : parse v = (f, 0)) : parse f = (f, 0) ∧ right f = true ∧ hostOf f ≠ [] ∧ f.length ≤ 200 ∧ ∃ n c, ((n = 7 ∧ c = 58) ∨ (n = 8 ∧ c = 115)) ∧ f[4]? = some c ∧ n + (hostOf f).length < f.length ∧ (f.drop n).take (hostOf f).length = hostOf f ∧ f[n + (hostOf f).length]? = some 47 ∧ f.take n = (if n = 7 then http else https) ++ colon := by
  obtain ⟨sch, hh, po, st, qu, F⟩ := AddrMath.form_of_parse h
  have hO := F.hostOf
  obtain ⟨r, hr, _⟩ := AddrMath.join_form F.ne
  have hne : hh ≠ [] := by
    intro e
    have := F.host
    rw [e] at this
    exact absurd this (by decide)
  have hi : f = (sch ++ colon) ++ ((hh ++ po) ++ (47 :: (r ++ qu))) := by
    have := F.is
    rw [hr] at this
    rw [this]
    simp
  have hl := F.len
  refine ⟨F.self, F.right, by rw [hO]; simp [hne], hl, (sch ++ colon).length, (if sch = https then 115 else 58), ?_, ?_, ?_, ?_, ?_, ?_⟩
  · rcases F.sch0 with e | e <;> rw [e] <;> decide
  · rw [hi]
    rcases F.sch0 with e | e <;> rw [e] <;> rfl
  · rw [hO, hi]; simp only [List.length_append, List.length_cons]; omega
  · rw [hO]
    conv => lhs; rw [hi]
    rw [List.drop_left, List.take_left]
  · rw [hO, hi, List.getElem?_append_right (by omega), Nat.add_sub_cancel_left, List.getElem?_append_right (by omega), Nat.sub_self]
    rfl
  · rw [hi, List.take_left]
    rcases F.sch0 with e | e <;> rw [e] <;> rfl

set_option maxRecDepth 100000 in
set_option maxHeartbeats 8000000 in
theorem addrTwice_walk (s0 : ByteArray) (n1 n2 : Int) (W : World) (ht : MaxLen W) (hs0 : s0.size ≤ 140737488355328) (w1 : (Lit.int .u8 n1).wf = true) (w2 : (Lit.int .u8 n2).wf = true) :
    Calls Tryd.prog 4 #[.string s0, .int .u8 n1, .int .u8 n2] W fun e W' => e = .returned (.bool true) ∧ Below W.heap.size W W' := by
  obtain ⟨s, hsb, rfl⟩ := any_str s0
  have hb1 := bounds_u8 w1
  have hb2 := bounds_u8 w2
  obtain ⟨k, rfl⟩ : ∃ n : Nat, n1 = (n : Int) := ⟨n1.toNat, by omega⟩
  obtain ⟨j, rfl⟩ : ∃ n : Nat, n2 = (n : Int) := ⟨n2.toNat, by omega⟩
  have hk : k < 256 := by omega
  have hj : j < 256 := by omega
  have HT : Hid _ := ht
  have HK : Hid _ := known_any W ht
  have hsz := strN_size s
  clear w1 w2 ht hb1 hb2 hs0
  by_cases hbig : s.length ≤ 1000
  · have HWi : Hid (∀ w, _) := fun w => wild_any k j w hk hj
    have HAd : Hid (∀ w, _) := fun w => seatAddr_any j w hj
    obtain ⟨hab, hal, _⟩ := addrs_lt _ (seatA5_mem j)
    generalize seatA5 j = A at *
    obtain ⟨As, hAs⟩ : ∃ x, x = A ++ s := ⟨_, rfl⟩
    have hcA : ∀ w, (Op.stringOp BinOp.add (strN A) (strN s)).run Tryd.prog w = .ok (.string (strN As)) w := by rw [hAs]; exact sum_strN A s (by omega)
    have hAsb : ∀ c ∈ As, c < 256 := by rw [hAs]; exact app_lt hab hsb
    have hAsl : As.length ≤ 1100 := by rw [hAs]; simp; omega
    clear hAs
    go_enter Tryd.func4, Tryd.ntmps4
    go_wp2_with fail
    refine Calls.mono HK.out ?_
    rintro e w1 ⟨rfl, hb1⟩
    have HB1 : Hid _ := hb1
    clear hb1
    go_wp2_with fail
    refine Calls.mono (HWi.out _) ?_
    rintro e w2 ⟨⟨l, rfl, hlb, hll⟩, hb2⟩
    have HB2 : Hid _ := HB1.out.trans (hb2.mono HB1.out.size)
    clear hb2
    go_wp2_with fail
    refine Calls.mono (HWi.out _) ?_
    rintro e w2b ⟨⟨m, rfl, hmb, hml⟩, hb2⟩
    have HB2b : Hid _ := HB2.out.trans (hb2.mono HB2.out.size)
    clear hb2
    obtain ⟨Ms, hMs⟩ : ∃ x, x = m ++ s := ⟨_, rfl⟩
    have hcM : ∀ w, (Op.stringOp BinOp.add (strN m) (strN s)).run Tryd.prog w = .ok (.string (strN Ms)) w := by rw [hMs]; exact sum_strN m s (by omega)
    have hMsb : ∀ c ∈ Ms, c < 256 := by rw [hMs]; exact app_lt hmb hsb
    have hMsl : Ms.length ≤ 1100 := by rw [hMs]; simp; omega
    clear hMs
    go_wp2_with fail
    refine Calls.mono (HAd.out _) ?_
    rintro e w3 ⟨rfl, hb3⟩
    have HB3 : Hid _ := HB2b.out.trans (hb3.mono HB2b.out.size)
    have hs3 := HB3.out.size
    clear hb3
    obtain ⟨T, hT⟩ : ∃ T : List (List Nat), T = [s, l, Ms, As] := ⟨_, rfl⟩
    have HTb : Hid (∀ v ∈ T, (∀ c ∈ v, c < 256) ∧ v.length ≤ 1100) := by
      intro v hv
      rw [hT] at hv
      simp at hv
      rcases hv with rfl | rfl | rfl | rfl
      · exact ⟨hsb, by omega⟩
      · exact ⟨hlb, by omega⟩
      · exact ⟨hMsb, hMsl⟩
      · exact ⟨hAsb, hAsl⟩
    have HTl : Hid (T.length = 4) := by rw [hT]; exact rfl
    have HCe : Hid (∀ q v, T[q]? = some v → (w3.alloc (Obj.cells #[.string (strN s), .string (strN l), .string (strN Ms), .string (strN As)] 9)).cell? ⟨w3.heap.size, q, none⟩ = some (.string (strN v))) := by
      intro q v hq
      have hql : q < T.length := (List.getElem?_eq_some_iff.1 hq).1
      have := txt_cell w3 T q hql
      rw [hq] at this
      rw [hT] at this
      exact this
    have HB4 : Hid (Below W.heap.size W (w3.alloc (Obj.cells #[.string (strN s), .string (strN l), .string (strN Ms), .string (strN As)] 9))) := HB3.out.alloc hs3 _
    clear hT
    go_wp2
    generalize w3.alloc (Obj.cells #[.string (strN s), .string (strN l), .string (strN Ms), .string (strN As)] 9) = w4 at *
    obtain ⟨g, hg⟩ : ∃ g, g = w3.heap.size := ⟨_, rfl⟩
    rw [← hg] at HCe ⊢
    clear hg hcA hcM
    go_loopw [35] (fun i wr => ∃ q : Nat, q ≤ 4 ∧ i = .int .i64 (q : Int) ∧ Below w4.heap.size w4 wr) (fun i _ => 4 - (intOf i).toNat)
    case atStart => exact ⟨0, by omega, rfl, Below.refl _ _⟩
    case round =>
      obtain ⟨q, hq, rfl, hbw⟩ := hrel
      have HBw : Hid _ := hbw
      have HBWw : Hid _ := HB4.out.trans (hbw.mono HB4.out.size)
      by_cases hq3 : q < 4
      · obtain ⟨v, hv⟩ : ∃ v, T[q]? = some v := ⟨T[q]'(by rw [HTl.out]; exact hq3), List.getElem?_eq_getElem _⟩
        have hcx := cell_later (HCe.out q v hv) hbw
        obtain ⟨hvb, hvl⟩ := HTb.out v (List.mem_of_getElem? hv)
        have hfb := AddrMath.parse_lt v
        have hco := AddrMath.parse_code v
        have hrv : right v = decide (parse v = (v, 0)) := rfl
        rcases hpv : parse v with ⟨f, e⟩
        rw [hpv] at hfb hco hrv
        simp only at hfb hco
        have HP1 : Hid (∀ w, MaxLen w → _) := fun w ht => parse_at v f e w ht hvb (by omega) hpv
        have HR1 : Hid (∀ w, MaxLen w → _) := fun w ht => right_any v w ht hvb (by omega)
        have HR2 : Hid (∀ w, _) := fun w => refRight_any v w hvb (by omega)
        have HH1 : Hid (∀ w, MaxLen w → _) := fun w ht => host_any v w ht hvb (by omega)
        have HH2 : Hid (∀ w, _) := fun w => refHostOf_any v w hvb (by omega)
        have heq := strN_eq hfb hvb
        generalize hostOf v = hv0 at *
        have hhn : ((strN hv0).toList != (strN hv0).toList) = false := by simp
        clear hv hbw
        by_cases he : e = 0
        · subst he
          obtain ⟨hpf, hrf, hhf, hfl, n, c4, hn, hc4, hnl, hsl, h47, _⟩ := form_shows hpv
          have hfz := strN_size f
          have HP3 : Hid (∀ w, MaxLen w → Calls Tryd.prog 15 #[.string (strN f)] w fun e w' => e = .returned (.tuple #[.string (strN f), .int .i64 0]) ∧ Below w.heap.size w w') := fun w ht => parse_at f f 0 w ht hfb (by omega) hpf
          have HP1' : Hid (∀ w, MaxLen w → Calls Tryd.prog 15 #[.string (strN v)] w fun e w' => e = .returned (.tuple #[.string (strN f), .int .i64 0]) ∧ Below w.heap.size w w') := fun w ht => HP1.out w ht
          have hrf2 := fun w ht => right_any f w ht hfb (by omega)
          rw [hrf] at hrf2
          have HR3 : Hid _ := hrf2
          have HH3 : Hid (∀ w, MaxLen w → _) := fun w ht => host_any f w ht hfb (by omega)
          have hhb := hostOf_lt f hfb
          have hr2 : right v = decide (f = v) := by rw [hrv, Bool.eq_iff_iff]; simp
          rw [← hr2] at heq
          clear hrv hr2 hpv hrf2 HP1 hrf hpf
          generalize right v = rr at *
          generalize hostOf f = h at *
          have hhz := strN_size h
          have hhe : ((strN h).toList == []) = false := by rw [eq_lit [] [] rfl hhb (by simp)]; simpa using hhf
          have hix4 : ∀ w, (Instr.index 9 (.string (strN f)) (.int .i64 4)).run Tryd.prog w = .ok (.int .u8 (c4 : Int)) w := by
            intro w
            have := index_strN f hfb 4 (by omega) .i64 w
            rw [hc4] at this
            exact this
          have hixn : ∀ w, (Instr.index 9 (.string (strN f)) (.int .i64 ((n : Int) + (h.length : Int)))).run Tryd.prog w = .ok (.int .u8 47) w := by
            intro w
            have := index_strN f hfb (n + h.length) (by omega) .i64 w
            rw [h47] at this
            rw [show ((n : Int) + (h.length : Int)) = ((n + h.length : Nat) : Int) by omega]
            exact this
          have hsln : ∀ w, (Instr.sliceAt 9 (.string (strN f)) (some (.int .i64 (n : Int))) (some (.int .i64 ((n : Int) + (h.length : Int)))) none).run Tryd.prog w = .ok (.string (strN h)) w := by
            intro w
            have := run_slice_strN (w := w) f .i64 .i64 n (n + h.length) (by omega) (by omega)
            rw [Nat.add_sub_cancel_left, hsl] at this
            rw [show ((n : Int) + (h.length : Int)) = ((n + h.length : Nat) : Int) by omega]
            exact this
          have hff : ((strN f).toList != (strN f).toList) = false := by simp
          have hhh : ((strN h).toList != (strN h).toList) = false := by simp
          obtain ⟨hl, hhl⟩ : ∃ n, n = h.length := ⟨_, rfl⟩
          obtain ⟨fl, hfl2⟩ : ∃ n, n = f.length := ⟨_, rfl⟩
          rw [← hhl] at hhz hixn hsln hnl
          rw [← hfl2] at hfz hfl hnl
          clear hhl hfl2 hc4 hsl h47 hhf hhb hvl hco
          have hn7 : 7 ≤ n ∧ n ≤ 8 := by omega
          have hnl8 : hl + 8 ≤ fl := by omega
          cases rr with
          | true =>
            go_wp2_with fail
            refine Calls.mono (HP1'.out _ (MaxLen.later HT.out HBWw.out)) ?_
            rintro e w10 ⟨rfl, hb10⟩
            have HB10 : Hid _ := HBw.out.trans (hb10.mono HBw.out.size)
            have HBW10 : Hid _ := HBWw.out.trans (hb10.mono HBWw.out.size)
            clear hb10
            go_wp2_with fail
            refine Calls.mono (HR1.out _ (MaxLen.later HT.out HBW10.out)) ?_
            rintro e w11 ⟨rfl, hb11⟩
            have HB11 : Hid _ := HB10.out.trans (hb11.mono HB10.out.size)
            have HBW11 : Hid _ := HBW10.out.trans (hb11.mono HBW10.out.size)
            clear hb11
            go_wp2_with fail
            refine Calls.mono (HR1.out _ (MaxLen.later HT.out HBW11.out)) ?_
            rintro e w12 ⟨rfl, hb12⟩
            have HB12 : Hid _ := HB11.out.trans (hb12.mono HB11.out.size)
            have HBW12 : Hid _ := HBW11.out.trans (hb12.mono HBW11.out.size)
            clear hb12
            go_wp2_with fail
            refine Calls.mono (HR2.out _ ) ?_
            rintro e w13 ⟨rfl, hb13⟩
            have HB13 : Hid _ := HB12.out.trans (hb13.mono HB12.out.size)
            have HBW13 : Hid _ := HBW12.out.trans (hb13.mono HBW12.out.size)
            clear hb13
            go_wp2_with fail
            refine Calls.mono (HH1.out _ (MaxLen.later HT.out HBW13.out)) ?_
            rintro e w14 ⟨rfl, hb14⟩
            have HB14 : Hid _ := HB13.out.trans (hb14.mono HB13.out.size)
            have HBW14 : Hid _ := HBW13.out.trans (hb14.mono HBW13.out.size)
            clear hb14
            go_wp2_with fail
            refine Calls.mono (HH2.out _ ) ?_
            rintro e w15 ⟨rfl, hb15⟩
            have HB15 : Hid _ := HB14.out.trans (hb15.mono HB14.out.size)
            have HBW15 : Hid _ := HBW14.out.trans (hb15.mono HBW14.out.size)
            clear hb15
            go_wp2_with fail
            refine Calls.mono (HP3.out _ (MaxLen.later HT.out HBW15.out)) ?_
            rintro e w16 ⟨rfl, hb16⟩
            have HB16 : Hid _ := HB15.out.trans (hb16.mono HB15.out.size)
            have HBW16 : Hid _ := HBW15.out.trans (hb16.mono HBW15.out.size)
            clear hb16
            go_wp2_with fail
            refine Calls.mono (HH3.out _ (MaxLen.later HT.out HBW16.out)) ?_
            rintro e w17 ⟨rfl, hb17⟩
            have HB17 : Hid _ := HB16.out.trans (hb17.mono HB16.out.size)
            have HBW17 : Hid _ := HBW16.out.trans (hb17.mono HBW16.out.size)
            clear hb17
            go_wp2_with fail
            refine Calls.mono (HR3.out _ (MaxLen.later HT.out HBW17.out)) ?_
            rintro e w18 ⟨rfl, hb18⟩
            have HB18 : Hid _ := HB17.out.trans (hb18.mono HB17.out.size)
            have HBW18 : Hid _ := HBW17.out.trans (hb18.mono HBW17.out.size)
            clear hb18
            rcases hn with ⟨rfl, rfl⟩ | ⟨rfl, rfl⟩
            · have hsl7 : ∀ w, (Instr.sliceAt 9 (.string (strN f)) (some (.int .i64 7)) (some (.int .i64 (7 + (hl : Int)))) none).run Tryd.prog w = .ok (.string (strN h)) w := hsln
              have hix7 : ∀ w, (Instr.index 9 (.string (strN f)) (.int .i64 (7 + (hl : Int)))).run Tryd.prog w = .ok (.int .u8 47) w := hixn
              clear hsln hixn
              go_wp2
              go_roundw
              case rel => exact ⟨q + 1, by omega, by simp, HB18.out⟩
              case measure => simp [intOf]; omega
            · have hsl7 : ∀ w, (Instr.sliceAt 9 (.string (strN f)) (some (.int .i64 8)) (some (.int .i64 (8 + (hl : Int)))) none).run Tryd.prog w = .ok (.string (strN h)) w := hsln
              have hix7 : ∀ w, (Instr.index 9 (.string (strN f)) (.int .i64 (8 + (hl : Int)))).run Tryd.prog w = .ok (.int .u8 47) w := hixn
              clear hsln hixn
              go_wp2
              go_roundw
              case rel => exact ⟨q + 1, by omega, by simp, HB18.out⟩
              case measure => simp [intOf]; omega
          | false =>
            go_wp2_with fail
            refine Calls.mono (HP1'.out _ (MaxLen.later HT.out HBWw.out)) ?_
            rintro e w10 ⟨rfl, hb10⟩
            have HB10 : Hid _ := HBw.out.trans (hb10.mono HBw.out.size)
            have HBW10 : Hid _ := HBWw.out.trans (hb10.mono HBWw.out.size)
            clear hb10
            go_wp2_with fail
            refine Calls.mono (HR1.out _ (MaxLen.later HT.out HBW10.out)) ?_
            rintro e w11 ⟨rfl, hb11⟩
            have HB11 : Hid _ := HB10.out.trans (hb11.mono HB10.out.size)
            have HBW11 : Hid _ := HBW10.out.trans (hb11.mono HBW10.out.size)
            clear hb11
            go_wp2_with fail
            refine Calls.mono (HR1.out _ (MaxLen.later HT.out HBW11.out)) ?_
            rintro e w12 ⟨rfl, hb12⟩
            have HB12 : Hid _ := HB11.out.trans (hb12.mono HB11.out.size)
            have HBW12 : Hid _ := HBW11.out.trans (hb12.mono HBW11.out.size)
            clear hb12
            go_wp2_with fail
            refine Calls.mono (HR2.out _ ) ?_
            rintro e w13 ⟨rfl, hb13⟩
            have HB13 : Hid _ := HB12.out.trans (hb13.mono HB12.out.size)
            have HBW13 : Hid _ := HBW12.out.trans (hb13.mono HBW12.out.size)
            clear hb13
            go_wp2_with fail
            refine Calls.mono (HH1.out _ (MaxLen.later HT.out HBW13.out)) ?_
            rintro e w14 ⟨rfl, hb14⟩
            have HB14 : Hid _ := HB13.out.trans (hb14.mono HB13.out.size)
            have HBW14 : Hid _ := HBW13.out.trans (hb14.mono HBW13.out.size)
            clear hb14
            go_wp2_with fail
            refine Calls.mono (HH2.out _ ) ?_
            rintro e w15 ⟨rfl, hb15⟩
            have HB15 : Hid _ := HB14.out.trans (hb15.mono HB14.out.size)
            have HBW15 : Hid _ := HBW14.out.trans (hb15.mono HBW14.out.size)
            clear hb15
            go_wp2_with fail
            refine Calls.mono (HP3.out _ (MaxLen.later HT.out HBW15.out)) ?_
            rintro e w16 ⟨rfl, hb16⟩
            have HB16 : Hid _ := HB15.out.trans (hb16.mono HB15.out.size)
            have HBW16 : Hid _ := HBW15.out.trans (hb16.mono HBW15.out.size)
            clear hb16
            go_wp2_with fail
            refine Calls.mono (HH3.out _ (MaxLen.later HT.out HBW16.out)) ?_
            rintro e w17 ⟨rfl, hb17⟩
            have HB17 : Hid _ := HB16.out.trans (hb17.mono HB16.out.size)
            have HBW17 : Hid _ := HBW16.out.trans (hb17.mono HBW16.out.size)
            clear hb17
            go_wp2_with fail
            refine Calls.mono (HR3.out _ (MaxLen.later HT.out HBW17.out)) ?_
            rintro e w18 ⟨rfl, hb18⟩
            have HB18 : Hid _ := HB17.out.trans (hb18.mono HB17.out.size)
            have HBW18 : Hid _ := HBW17.out.trans (hb18.mono HBW17.out.size)
            clear hb18
            rcases hn with ⟨rfl, rfl⟩ | ⟨rfl, rfl⟩
            · have hsl7 : ∀ w, (Instr.sliceAt 9 (.string (strN f)) (some (.int .i64 7)) (some (.int .i64 (7 + (hl : Int)))) none).run Tryd.prog w = .ok (.string (strN h)) w := hsln
              have hix7 : ∀ w, (Instr.index 9 (.string (strN f)) (.int .i64 (7 + (hl : Int)))).run Tryd.prog w = .ok (.int .u8 47) w := hixn
              clear hsln hixn
              go_wp2
              go_roundw
              case rel => exact ⟨q + 1, by omega, by simp, HB18.out⟩
              case measure => simp [intOf]; omega
            · have hsl7 : ∀ w, (Instr.sliceAt 9 (.string (strN f)) (some (.int .i64 8)) (some (.int .i64 (8 + (hl : Int)))) none).run Tryd.prog w = .ok (.string (strN h)) w := hsln
              have hix7 : ∀ w, (Instr.index 9 (.string (strN f)) (.int .i64 (8 + (hl : Int)))).run Tryd.prog w = .ok (.int .u8 47) w := hixn
              clear hsln hixn
              go_wp2
              go_roundw
              case rel => exact ⟨q + 1, by omega, by simp, HB18.out⟩
              case measure => simp [intOf]; omega
        · have hf : f = [] := AddrMath.parse_err hpv he
          subst hf
          have hr2 : right v = false := by rw [hrv]; simp [he]
          rw [hr2] at HR1 HR2
          have hee : ((e : Int) == 0) = false := by simp; omega
          have hen : ((e : Int) != 0) = true := by simp; omega
          have hnil : ((strN ([] : List Nat)).toList == ([] : List UInt8)) = true := by rw [eq_lit [] [] rfl (by simp) (by simp)]; rfl
          have hnil2 : ((strN ([] : List Nat)).toList != ([] : List UInt8)) = false := by rw [bne, hnil]; rfl
          clear hrv hr2 heq hpv he
          have HBWw2 : Hid _ := HBWw.out
          go_wp2_with fail
          refine Calls.mono (HP1.out _ (MaxLen.later HT.out HBWw.out)) ?_
          rintro e w10 ⟨rfl, hb10⟩
          have HB10 : Hid _ := HBw.out.trans (hb10.mono HBw.out.size)
          have HBW10 : Hid _ := HBWw.out.trans (hb10.mono HBWw.out.size)
          clear hb10
          go_wp2_with fail
          refine Calls.mono (HR1.out _ (MaxLen.later HT.out HBW10.out)) ?_
          rintro e w11 ⟨rfl, hb11⟩
          have HB11 : Hid _ := HB10.out.trans (hb11.mono HB10.out.size)
          have HBW11 : Hid _ := HBW10.out.trans (hb11.mono HBW10.out.size)
          clear hb11
          go_wp2_with fail
          refine Calls.mono (HR1.out _ (MaxLen.later HT.out HBW11.out)) ?_
          rintro e w12 ⟨rfl, hb12⟩
          have HB12 : Hid _ := HB11.out.trans (hb12.mono HB11.out.size)
          have HBW12 : Hid _ := HBW11.out.trans (hb12.mono HBW11.out.size)
          clear hb12
          go_wp2_with fail
          refine Calls.mono (HR2.out _ ) ?_
          rintro e w13 ⟨rfl, hb13⟩
          have HB13 : Hid _ := HB12.out.trans (hb13.mono HB12.out.size)
          have HBW13 : Hid _ := HBW12.out.trans (hb13.mono HBW12.out.size)
          clear hb13
          go_wp2_with fail
          refine Calls.mono (HH1.out _ (MaxLen.later HT.out HBW13.out)) ?_
          rintro e w14 ⟨rfl, hb14⟩
          have HB14 : Hid _ := HB13.out.trans (hb14.mono HB13.out.size)
          have HBW14 : Hid _ := HBW13.out.trans (hb14.mono HBW13.out.size)
          clear hb14
          go_wp2_with fail
          refine Calls.mono (HH2.out _ ) ?_
          rintro e w15 ⟨rfl, hb15⟩
          have HB15 : Hid _ := HB14.out.trans (hb15.mono HB14.out.size)
          have HBW15 : Hid _ := HBW14.out.trans (hb15.mono HBW14.out.size)
          clear hb15
          go_wp2
          go_roundw
          case rel => exact ⟨q + 1, by omega, by simp, HB15.out⟩
          case measure => simp [intOf]; omega
      · clear hbw
        go_wp2
        go_ret
        exact ⟨rfl, HBWw.out⟩
  · have hgt : 1000 < s.length := by omega
    clear hbig
    go_enter Tryd.func4, Tryd.ntmps4
    go_wp2_with fail
    refine Calls.mono HK.out ?_
    rintro e w1 ⟨rfl, hb1⟩
    have HB1 : Hid _ := hb1
    clear hb1
    go_wp2
    go_ret
    exact ⟨rfl, HB1.out⟩
end Go.Proofs.YtmdpakkldapciaaDoor

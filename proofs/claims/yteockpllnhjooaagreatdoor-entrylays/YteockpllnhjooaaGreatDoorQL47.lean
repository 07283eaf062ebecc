/-
  FnRefEC.
-/
import Derived.Test.YteockpllnhjooaaGreatDoorQL39
import Derived.Test.YteockpllnhjooaaGreatDoorQL40
import Derived.Test.YteockpllnhjooaaGreatDoorQL46
import Derived.Lib.AppendStr
namespace Go.Proofs.YteockpllnhjooaaGreatDoor
open Go.RowKit NumMath
open EntMath (E textB iN bytes0)
set_option maxRecDepth 100000
set_option linter.unusedVariables false
set_option linter.unusedSimpArgs false

theorem strCells_iz (l : List Nat) (hb : ∀ c ∈ l, c < 256) : Lib.strCells (strN l) = (iN l).map (Value.int .u8) := by
  have := byteCells_strN l hb
  unfold Lib.byteCells iz at this
  unfold Lib.strCells
  exact this

theorem own_lower {w : World} {b b' e s n : Nat} {v : Value} {xs : List Value} (h : w.ownsRow b e s v n xs) (hb : b' ≤ b) : w.ownsRow b' e s v n xs :=
  ⟨h.1, h.2.imp id (fun ⟨g, cap, cur, h1, h2, h3⟩ => ⟨g, cap, cur, h1, Nat.le_trans hb h2, h3⟩)⟩

set_option maxHeartbeats 8000000 in
theorem refText_any (a : Option Addr) (zs : List Int) (cap : Nat) (s : List Nat) (w : World) (hr : Row .u8 w a zs) (hc : zs.length ≤ cap) (hm : cap ≤ maxLen) (hnil : a = none → cap = 0) (hsb : ∀ c ∈ s, c < 256) (hl : zs.length + s.length ≤ 1000000) :
    Calls Tryz.prog 37 #[.slice a zs.length cap, .string (strN s)] w fun e w' => ∃ v, e = .returned v ∧
      w'.ownsRow w.heap.size 5 1 v (zs ++ textB s).length ((zs ++ textB s).map (Value.int .u8)) ∧ Below w.heap.size w w' := by
  have hz := strN_size s
  have hwz : IntKind.u64.wrap (s.length : Int) = (s.length : Int) := by rw [IntKind.wrap_u64]; omega
  have hd := D_len (s.length : Int)
  have HP : Hid (Calls Tryz.prog 38 #[.slice a zs.length cap, .slice (some ⟨w.heap.size, 0, none⟩) 1 1] (w.alloc (.cells #[.int .u64 (s.length : Int)] 69)) fun e w' => ∃ v, e = .returned v ∧ w'.ownsRow w.heap.size 5 1 v (zs ++ D (s.length : Int)).length ((zs ++ D (s.length : Int)).map (Value.int .u8)) ∧ Below w.heap.size w w') := by
    have hbal : Below w.heap.size w (w.alloc (.cells #[.int .u64 (s.length : Int)] 69)) := (Below.refl _ _).alloc (Nat.le_refl _) _
    have := refPut_any a (some ⟨w.heap.size, 0, none⟩) zs [(s.length : Int)] cap 1 (w.alloc (.cells #[.int .u64 (s.length : Int)] 69)) (hr.later hbal) hc hm hnil (lit_row w .u64 [(s.length : Int)] 69 _ rfl) (by simp; omega) (by simp) (by decide) (by simp; omega)
    refine this.mono ?_
    rintro e w' ⟨v, rfl, hown, hb⟩
    rw [List.flatMap_cons, List.flatMap_nil, List.append_nil] at hown
    exact ⟨v, rfl, own_lower hown (by simp), hbal.trans (hb.mono hbal.size)⟩
  obtain ⟨i0, hi, hz0, hz1, hz2⟩ := info_parts Tryz.info5
  have HSC : Hid _ := strCells_iz s hsb
  have HT : Hid (zs ++ textB s = (zs ++ D (s.length : Int)) ++ iN s) := by show _ = _; unfold textB; rw [List.append_assoc]
  obtain ⟨L, hL⟩ : ∃ L, L = (zs ++ D (s.length : Int)).length := ⟨_, rfl⟩
  have hLl : L ≤ 1000020 := by rw [hL]; simp; omega
  rw [← hL] at HP
  have HLn : Hid ((zs ++ textB s).length = L + s.length) := by show _ = _; rw [HT.out, List.length_append, ← hL, EntMath.iN_len]
  clear hL hr hc hm hnil hsb hd
  generalize zs ++ D (s.length : Int) = Y at *
  generalize zs.length = zl at *
  go_enter Tryz.func37, Tryz.ntmps37
  go_wp2_with fail
  refine Calls.mono HP.out ?_
  rintro e w1 ⟨v, rfl, hown, hb⟩
  have HO : Hid _ := hown
  have HB : Hid _ := hb
  clear hown hb HP
  go_wp2_with (at_builtin; refine Lib.wpList_append_own_string _ rfl (.tmp 10) (.tmp 11) 48 9 rfl w.heap.size 5 i0 Tryz.underlying48 Tryz.underlying9 hi hz0 hz1 hz2 v L (Y.map (Value.int .u8)) rfl HO.out (strN s) rfl (by rw [hz]; unfold maxLen; omega) (by rw [hz]; omega) HB.out.size ?_; intro v2 w2 hown2 hgrow2 _; have HO2 : Hid _ := hown2; have HG2 : Hid _ := hgrow2; clear hown2 hgrow2)
  go_ret
  refine ⟨v2, rfl, ?_, HB.out.grown HG2.out HB.out.size (fun k hk => own_ge HO.out k hk)⟩
  have h := HO2.out
  rw [HSC.out, ← List.map_append, ← HT.out, hz, ← HLn.out] at h
  exact h

set_option maxHeartbeats 16000000 in
theorem refEntBytes_any (e : E) (w : World) (hF : EFit e) :
    Calls Tryz.prog 18 #[entV e] w fun r w' => ∃ v, r = .returned v ∧ Bytes w' v (EntMath.bytes e) ∧ Below w.heap.size w w' := by
  have HC : Hid (∀ w, _) := fun w => refEntRight_any e w hF
  have HA0 : Hid _ := EntAt.new w e
  have HB0 : Hid (Below w.heap.size w (w.alloc (.cells #[.string (strN e.feed), .string (strN e.guid), .string (strN e.title), .string (strN e.link), .string (strN e.body), .int .i64 e.time] 23))) := (Below.refl _ _).alloc (Nat.le_refl _) _
  cases hr : EntMath.right e with
  | false =>
    have HQ : Hid (EntMath.bytes e = []) := by show _ = _; unfold EntMath.bytes; rw [hr]; rfl
    rw [hr] at HC
    clear hr hF
    unfold entV at *
    go_enter Tryz.func18, Tryz.ntmps18
    go_wp2_with fail
    refine Calls.mono (HC.out _) ?_
    rintro r w1 ⟨rfl, hb⟩
    have HB1 : Hid _ := HB0.out.trans (hb.mono HB0.out.size)
    clear hb
    go_wp2
    go_ret
    exact ⟨_, rfl, ⟨none, 0, by rw [HQ.out]; rfl, by rw [HQ.out]; exact .inl rfl, by rw [HQ.out]; simp, by rw [HQ.out]; simp, by unfold maxLen; omega, fun _ => rfl⟩, HB1.out⟩
  | true =>
    have hfit := EntMath.right_fit hr
    have HQ : Hid (EntMath.bytes e = bytes0 e) := by show _ = _; unfold EntMath.bytes; rw [if_pos hr]
    have h0 := hfit.t0
    have h1 := hfit.t1
    have hlen := (EntMath.bytes0_len hfit).2
    have HALL : Hid _ := tk_all e
    have HBy : Hid _ := EntMath.bytes0_byte hfit
    have HTF : Hid _ := T5_fit hfit
    have HMo : Hid _ := tk_mono e
    have hsum : (tk e 5).length ≤ 3340 := by have := congrArg List.length (tk_all e); simp at this; omega
    have hwt : IntKind.u64.wrap e.time = e.time := by rw [IntKind.wrap_u64]; omega
    rw [hr] at HC
    clear hr hF hfit hlen
    unfold entV at *
    go_enter Tryz.func18, Tryz.ntmps18
    go_wp2_with fail
    refine Calls.mono (HC.out _) ?_
    rintro r w1 ⟨rfl, hb⟩
    have HA1 : Hid _ := HA0.out.later hb HA0.out.lt
    have HB1 : Hid _ := HB0.out.trans (hb.mono HB0.out.size)
    obtain ⟨c0, c1, c2, c3, c4, c5⟩ := HA1.out.cells
    have hlt := HA1.out.lt
    clear hb HA0 HB0
    go_wp2
    have HG2 : Hid (Arr (w1.alloc (.cells #[.string (strN e.feed), .string (strN e.guid), .string (strN e.title), .string (strN e.link), .string (strN e.body)] 9)) w1.heap.size 9 (agg5 e).toList) := Arr.new w1 _ (agg5 e).toList rfl
    have HA2 : Hid _ := HA1.out.alloc (.cells #[.string (strN e.feed), .string (strN e.guid), .string (strN e.title), .string (strN e.link), .string (strN e.body)] 9)
    have HB2 : Hid _ := HB1.out.alloc HB1.out.size (.cells #[.string (strN e.feed), .string (strN e.guid), .string (strN e.title), .string (strN e.link), .string (strN e.body)] 9)
    clear c0 c1 c2 c3 c4 c5 HA1 HB1 hlt
    generalize w1.alloc _ = W2 at *
    generalize w1.heap.size = G4 at *
    go_loopw [3, 21] (fun o i wr => ∃ k : Nat, k ≤ 5 ∧ i = .int .i64 (k : Int) ∧ Bytes wr o (tk e k) ∧ Below W2.heap.size W2 wr) (fun _ i _ => 5 - (intOf i).toNat)
    case atStart => exact ⟨0, by omega, rfl, ⟨none, 0, rfl, .inl rfl, by simp [tk_zero], by simp [tk_zero], by unfold maxLen; omega, fun _ => rfl⟩, Below.refl _ _⟩
    case round =>
      obtain ⟨k, hk, rfl, hby, hbw⟩ := hrel
      obtain ⟨ao, co, rfl, hrow, hbb, hco, hmo, hno⟩ := hby
      have HBw : Hid _ := hbw
      have HBW : Hid (Below w.heap.size w wr) := HB2.out.trans (hbw.mono HB2.out.size)
      have HG3 : Hid (Arr wr G4 9 (agg5 e).toList) := Arr.later HG2.out hbw (Arr.lt HG2.out)
      have HA3 : Hid (EntAt wr w.heap.size e) := HA2.out.later hbw HA2.out.lt
      have hm1 := HMo.out k hk
      by_cases hltk : k < 5
      · obtain ⟨t, ht1, ht2, ht3⟩ := T5_at e k hltk
        obtain ⟨htb, htl⟩ := HTF.out t ht3
        have hcell := (Arr.cell HG3.out k).trans ht2
        have hst := tk_succ e k t ht1
        have HTx : Hid _ := refText_any ao (tk e k) co t wr hrow hco hmo hno htb (by omega)
        rw [show tk e k ++ textB t = tk e (k + 1) from hst.symm] at HTx
        have hm2 := HMo.out (k + 1) (by omega)
        have HBk : Hid (∀ c ∈ tk e (k + 1), 0 ≤ c ∧ c ≤ 255) := by
          intro c hc
          apply HBy.out
          rw [← HALL.out]
          refine List.mem_append.2 (.inl ?_)
          unfold tk at hc ⊢
          obtain ⟨x, hx, hcx⟩ := List.mem_flatMap.1 hc
          refine List.mem_flatMap.2 ⟨x, ?_, hcx⟩
          rw [List.take_of_length_le (by simp [T5])]
          exact List.mem_of_mem_take hx
        clear hbw hrow hbb hco hmo hno ht1 ht2 ht3 htb htl hst hm1
        generalize (tk e k).length = pl at *
        go_wp2_with fail
        refine Calls.mono HTx.out ?_
        rintro r w3 ⟨v, rfl, hown, hb⟩
        have HO : Hid _ := own_bytes hown HBk.out
        have HB3 : Hid _ := HBw.out.trans (hb.mono HBw.out.size)
        clear hown hb HTx
        go_wp2
        go_roundw
        case rel => exact ⟨k + 1, by omega, by go_num, HO.out, HB3.out⟩
        case measure => simp [intOf]; omega
      · obtain rfl : k = 5 := by omega
        have hc5 := HA3.out.cells.2.2.2.2.2
        have hlt5 := HA3.out.lt
        have HPu : Hid (Calls Tryz.prog 38 #[.slice ao (tk e 5).length co, .slice (some ⟨wr.heap.size, 0, none⟩) 1 1] (wr.alloc (.cells #[.int .u64 e.time] 69)) fun r w' => ∃ v, r = .returned v ∧ Bytes w' v (bytes0 e) ∧ Below wr.heap.size wr w') := by
          have hbal : Below wr.heap.size wr (wr.alloc (.cells #[.int .u64 e.time] 69)) := (Below.refl _ _).alloc (Nat.le_refl _) _
          have := refPut_any ao (some ⟨wr.heap.size, 0, none⟩) (tk e 5) [e.time] co 1 (wr.alloc (.cells #[.int .u64 e.time] 69)) (hrow.later hbal) hco hmo hno (lit_row wr .u64 [e.time] 69 _ rfl) (by simp; omega) (by simp) (by decide) (by simp; omega)
          refine this.mono ?_
          rintro r w' ⟨v, rfl, hown, hb⟩
          rw [List.flatMap_cons, List.flatMap_nil, List.append_nil, HALL.out] at hown
          exact ⟨v, rfl, own_bytes hown HBy.out, hbal.trans (hb.mono hbal.size)⟩
        clear hbw hrow hbb hco hmo hno hm1 hltk hk
        generalize (tk e 5).length = pl at *
        go_wp2_with fail
        refine Calls.mono HPu.out ?_
        rintro r w3 ⟨v, rfl, hby, hb⟩
        have HO : Hid _ := hby
        have HB3 : Hid _ := HBW.out.trans (hb.mono HBW.out.size)
        clear hby hb
        go_wp2
        go_ret
        exact ⟨_, rfl, by rw [HQ.out]; exact HO.out, HB3.out⟩
end Go.Proofs.YteockpllnhjooaaGreatDoor

/-
  FnEntF.
-/
import Derived.Test.YteockpllnhjooaaGreatDoorQC23
import Derived.Test.YteockpllnhjooaaGreatDoorQC38
import Derived.Test.YteockpllnhjooaaGreatDoorQC36
namespace Go.Proofs.YteockpllnhjooaaGreatDoor
open Go.RowKit NumMath
open EntMath (E textB iN bytes0)
set_option maxRecDepth 100000
set_option linter.unusedVariables false
set_option linter.unusedSimpArgs false

def T5 (e : E) : List (List Nat) := [e.feed, e.guid, e.title, e.link, e.body]
def tk (e : E) (k : Nat) : List Int := ((T5 e).take k).flatMap textB
theorem tk_zero (e : E) : tk e 0 = [] := rfl
theorem tk_all (e : E) : tk e 5 ++ D e.time = bytes0 e := by rw [EntMath.bytes0_flat]; rfl
theorem tk_succ (e : E) (k : Nat) (s : List Nat) (h : (T5 e)[k]? = some s) : tk e (k + 1) = tk e k ++ (D (s.length : Int) ++ iN s) := by
  unfold tk
  rw [List.take_add_one, h]
  simp [textB]
theorem tk_mono (e : E) (k : Nat) (h : k ≤ 5) : (tk e k).length ≤ (tk e 5).length := by
  unfold tk
  rw [List.take_of_length_le (i := 5) (by simp [T5])]
  conv => rhs; rw [← List.take_append_drop k (T5 e)]
  rw [List.flatMap_append, List.length_append]
  omega
def agg5 (e : E) : Array Value := #[.string (strN e.feed), .string (strN e.guid), .string (strN e.title), .string (strN e.link), .string (strN e.body)]
theorem T5_at (e : E) (k : Nat) (h : k < 5) : ∃ s, (T5 e)[k]? = some s ∧ (agg5 e).toList[k]? = some (.string (strN s)) ∧ s ∈ T5 e := by
  match k, h with
  | 0, _ => exact ⟨e.feed, rfl, rfl, by simp [T5]⟩
  | 1, _ => exact ⟨e.guid, rfl, rfl, by simp [T5]⟩
  | 2, _ => exact ⟨e.title, rfl, rfl, by simp [T5]⟩
  | 3, _ => exact ⟨e.link, rfl, rfl, by simp [T5]⟩
  | 4, _ => exact ⟨e.body, rfl, rfl, by simp [T5]⟩
theorem T5_fit {e : E} (h : EntMath.Fit e) : ∀ s ∈ T5 e, (∀ c ∈ s, c < 256) ∧ s.length ≤ 1600 := by
  have := h.l1; have := h.l2; have := h.l3; have := h.l4; have := h.l5
  intro s hs
  simp only [T5, List.mem_cons, List.not_mem_nil, or_false] at hs
  rcases hs with rfl | rfl | rfl | rfl | rfl
  · exact ⟨h.f1, by omega⟩
  · exact ⟨h.f2, by omega⟩
  · exact ⟨h.f3, by omega⟩
  · exact ⟨h.f4, by omega⟩
  · exact ⟨h.f5, by omega⟩
/-- What is left behind the first m of a row's rest. -/
theorem slice_on {GB p L m : Nat} (h : m < L) (w : World) : (Instr.sliceAt 48 (.slice (some ⟨GB, p, none⟩) L L) (some (.int .i64 (m : Int))) none none).run Tryz.prog w = .ok (.slice (some ⟨GB, p + m, none⟩) (L - m) (L - m)) w := by
  have h1 : (m : Int) ≤ (L : Int) := by omega
  have h2 : ¬ L = m := by omega
  go_simp
theorem size9 : (Tryz.prog.info? 9).map (fun x => x.size) = some 1 := by kernel_rfl

set_option maxHeartbeats 16000000 in
theorem entBytes_any (e : E) (w : World) (ht : MaxLen w) (hF : EFit e) :
    Calls Tryz.prog 17 #[entV e] w fun r w' => ∃ v, r = .returned v ∧ Bytes w' v (EntMath.bytes e) ∧ Below w.heap.size w w' := by
  have HC : Hid (∀ w, MaxLen w → _) := fun w ht => entRight_any e w ht hF
  have HA0 : Hid _ := EntAt.new w e
  have HB0 : Hid (Below w.heap.size w (w.alloc (.cells #[.string (strN e.feed), .string (strN e.guid), .string (strN e.title), .string (strN e.link), .string (strN e.body), .int .i64 e.time] 23))) := (Below.refl _ _).alloc (Nat.le_refl _) _
  have HT0 : Hid (MaxLen _) := MaxLen.later ht HB0.out
  clear ht
  cases hr : EntMath.right e with
  | false =>
    have HQ : Hid (EntMath.bytes e = []) := by show _ = _; unfold EntMath.bytes; rw [hr]; rfl
    rw [hr] at HC
    clear hr hF
    unfold entV at *
    go_enter Tryz.func17, Tryz.ntmps17
    go_wp2_with fail
    refine Calls.mono (HC.out _ HT0.out) ?_
    rintro r w1 ⟨rfl, hb⟩
    have HB1 : Hid _ := HB0.out.trans (hb.mono HB0.out.size)
    clear hb
    go_wp2
    go_ret
    exact ⟨_, rfl, ⟨none, 0, by rw [HQ.out]; rfl, by rw [HQ.out]; exact .inl rfl, by rw [HQ.out]; simp, by rw [HQ.out]; simp, by unfold maxLen; omega, fun _ => rfl⟩, HB1.out⟩
  | true =>
    have hfit := EntMath.right_fit hr
    have HQ : Hid (EntMath.bytes e = bytes0 e) := by show _ = _; unfold EntMath.bytes; rw [if_pos hr]
    have h0 := hfit.t0
    have h1 := hfit.t1
    have hlen := (EntMath.bytes0_len hfit).2
    have hall := tk_all e
    have HBy : Hid _ := EntMath.bytes0_byte hfit
    have HTF : Hid _ := T5_fit hfit
    rw [hr] at HC
    obtain ⟨N, hN⟩ : ∃ N, N = (bytes0 e).length := ⟨_, rfl⟩
    obtain ⟨dt, hdt⟩ : ∃ dt, dt = (D e.time).length := ⟨_, rfl⟩
    have hdl := D_len e.time
    have hsum : (tk e 5).length + dt = N := by rw [hN, ← hall, hdt]; simp
    have hmono := tk_mono e
    have HSt : Hid _ := size_any e.time
    have HNn : Hid _ := hN
    have HDt : Hid _ := hdt
    have hN2 : N ≤ 3340 := by omega
    have hdt1 : 1 ≤ dt := by omega
    have hdt2 : dt ≤ 10 := by omega
    obtain ⟨tm, htm⟩ : ∃ tm, tm = e.time := ⟨_, rfl⟩
    have hwt : IntKind.u64.wrap e.time = e.time := by rw [IntKind.wrap_u64]; omega
    have HALL : Hid _ := hall
    have HSum : Hid _ := hsum
    have HMo : Hid _ := hmono
    clear hr hF hfit hN hdt hdl hlen hall hsum hmono htm
    unfold entV at *
    go_enter Tryz.func17, Tryz.ntmps17
    go_wp2_with fail
    refine Calls.mono (HC.out _ HT0.out) ?_
    rintro r w1 ⟨rfl, hb⟩
    have HA1 : Hid _ := HA0.out.later hb HA0.out.lt
    have HB1 : Hid _ := HB0.out.trans (hb.mono HB0.out.size)
    obtain ⟨c0, c1, c2, c3, c4, c5⟩ := HA1.out.cells
    have hlt := HA1.out.lt
    clear hb HA0 HB0 HT0
    go_wp2_with fail
    refine Calls.mono (HSt.out _ h0 (by omega)) ?_
    rintro r w2 ⟨rfl, hw2⟩
    subst w2
    rw [← HDt.out]
    go_wp2
    have HG2 : Hid (Arr (w1.alloc (.cells #[.string (strN e.feed), .string (strN e.guid), .string (strN e.title), .string (strN e.link), .string (strN e.body)] 70)) w1.heap.size 70 (agg5 e).toList) := Arr.new w1 _ (agg5 e).toList rfl
    have HB2 : Hid _ := HB1.out.alloc HB1.out.size (.cells #[.string (strN e.feed), .string (strN e.guid), .string (strN e.title), .string (strN e.link), .string (strN e.body)] 70)
    have HGw : Hid (w.heap.size < w1.heap.size) := hlt
    clear c0 c1 c2 c3 c4 c5 HA1 HB1
    generalize w1.alloc _ = W2 at *
    generalize w1.heap.size = G4 at *
    clear hlt
    go_loop [5, 32] (fun s i => ∃ k : Nat, k ≤ 5 ∧ i = .int .i64 (k : Int) ∧ s = .int .i64 ((dt + (tk e k).length : Nat) : Int)) (fun _ i => 5 - (intOf i).toNat)
    case atStart => exact ⟨0, by omega, rfl, by rw [tk_zero]; rfl⟩
    case round =>
      obtain ⟨k, hk, rfl, rfl⟩ := hrel
      by_cases hlt : k < 5
      · obtain ⟨t, ht1, ht2, ht3⟩ := T5_at e k hlt
        obtain ⟨htb, htl⟩ := HTF.out t ht3
        have hix := run_index_row (P := Tryz.prog) (w := W2) 70 9 5 (agg5 e).toList k (.string (strN t)) Tryz.underlying70 size9 (Tryz.isAgg9 W2) hlt ht2
        unfold agg5 at hix
        have hz := strN_size t
        have hwz : IntKind.u64.wrap (t.length : Int) = (t.length : Int) := by rw [IntKind.wrap_u64]; omega
        have HSz : Hid _ := size_any (t.length : Int) W2 (by omega) (by omega)
        have hm1 := HMo.out (k + 1) (by omega)
        have hst := tk_succ e k t ht1
        have hs2 := HSum.out
        have hle : dt + (tk e k).length + ((D (t.length : Int)).length + t.length) ≤ N := by
          rw [hst] at hm1
          simp only [List.length_append, EntMath.iN_len] at hm1
          omega
        have HNx : Hid (dt + (tk e (k + 1)).length = dt + (tk e k).length + ((D (t.length : Int)).length + t.length)) := by
          show _ = _; rw [hst]; simp only [List.length_append, EntMath.iN_len]; omega
        generalize (D (t.length : Int)).length = dl at *
        generalize dt + (tk e k).length = acc at *
        generalize t.length = tl at *
        clear ht1 ht2 ht3 htb hm1 hst hs2
        go_wp2_with (go_at_call 35; refine Calls.mono HSz.out ?_; rintro r w3 ⟨rfl, hw3⟩; subst w3)
        go_round
        case rel => exact ⟨k + 1, by omega, by go_num, by rw [HNx.out]; go_num⟩
        case measure => simp [intOf]; omega
      · obtain rfl : k = 5 := by omega
        have hN5 : dt + (tk e 5).length = N := by have := HSum.out; omega
        rw [hN5]
        clear hN5 hk hlt
        obtain ⟨i0, hi, hz0, hz1, hz2⟩ := info_parts Tryz.info5
        go_wp2_with (at_make; refine wpList_make_full _ rfl _ _ 48 rfl w.heap.size 5 i0 (.int .u8 0) 1 Tryz.underlying48 hi hz0 hz1 _ _ _ _ N rfl rfl rfl rfl (by rw [hz2]; omega) (by unfold maxLen; omega) HB2.out.size ?_; intro w0 hown0 hgrow0; rw [made0] at hown0; have hb0 : Below W2.heap.size W2 w0 := (Below.refl _ _).grown hgrow0 (Nat.le_refl _) (fun k h => by cases h); have HG0 : Hid (Arr w0 G4 70 (agg5 e).toList) := Arr.later HG2.out hb0 (Arr.lt HG2.out); have HB3 : Hid _ := HB2.out.trans (hb0.mono HB2.out.size); have c0 : w0.cell? ⟨G4, 0, none⟩ = some (.string (strN e.feed)) := Arr.cell HG0.out 0; have c1 : w0.cell? ⟨G4, 1, none⟩ = some (.string (strN e.guid)) := Arr.cell HG0.out 1; have c2 : w0.cell? ⟨G4, 2, none⟩ = some (.string (strN e.title)) := Arr.cell HG0.out 2; have c3 : w0.cell? ⟨G4, 3, none⟩ = some (.string (strN e.link)) := Arr.cell HG0.out 3; have c4 : w0.cell? ⟨G4, 4, none⟩ = some (.string (strN e.body)) := Arr.cell HG0.out 4; have HAr : Hid (Arr w0 W2.heap.size 5 (iz (fill (tk e 0) N))) := by { show Arr _ _ _ _; rw [tk_zero, fill_nil]; have := own_arr hown0; simpa [u8v, iz] using this }; have HGB : Hid (w.heap.size ≤ W2.heap.size) := HB2.out.size; clear hown0 hgrow0 hb0)
        clear HG0 c0 c1 c2 c3 c4 HG2 HB2 hi hz0 hz1 hz2 i0
        generalize W2.heap.size = GB at *
        go_loopw [9, 49] (fun t9 i wr => ∃ k : Nat, k ≤ 5 ∧ i = .int .i64 (k : Int) ∧ t9 = .slice (some ⟨GB, (tk e k).length, none⟩) (N - (tk e k).length) (N - (tk e k).length) ∧ Arr wr GB 5 (iz (fill (tk e k) N)) ∧ Below w.heap.size w wr) (fun _ i _ => 5 - (intOf i).toNat)
        case atStart => exact ⟨0, by omega, rfl, rfl, HAr.out, HB3.out⟩
        case round =>
          clear HAr HB3
          obtain ⟨k, hk, rfl, rfl, hA, hBw⟩ := hrel
          have HA : Hid _ := hA
          have HBw : Hid _ := hBw
          clear hA hBw
          have hs2 := HSum.out
          by_cases hlt : k < 5
          · obtain ⟨t, ht1, ht2, ht3⟩ := T5_at e k hlt
            obtain ⟨htb, htl⟩ := HTF.out t ht3
            have hix := run_index_row (P := Tryz.prog) (w := wr) 70 9 5 (agg5 e).toList k (.string (strN t)) Tryz.underlying70 size9 (Tryz.isAgg9 wr) hlt ht2
            unfold agg5 at hix
            have hz := strN_size t
            have hwz : IntKind.u64.wrap (t.length : Int) = (t.length : Int) := by rw [IntKind.wrap_u64]; omega
            have HPut : Hid _ := putNil_any (t.length : Int) wr (by omega) (by omega)
            have hm1 := HMo.out (k + 1) (by omega)
            have hst := tk_succ e k t ht1
            have hnx : (tk e (k + 1)).length = (tk e k).length + (D (t.length : Int)).length + t.length := by rw [hst]; simp only [List.length_append, EntMath.iN_len]; omega
            have HCo : Hid (∀ (w3 : World) (g : Nat), Arr w3 GB 5 (iz (fill (tk e k) N)) → Row .u8 w3 (some ⟨g, 0, none⟩) (D (t.length : Int)) → (Builtin.copy_ #[48, 48] 3 #[.slice (some ⟨GB, (tk e k).length, none⟩) (N - (tk e k).length) (N - (tk e k).length), .slice (some ⟨g, 0, none⟩) (D (t.length : Int)).length (D (t.length : Int)).length]).run Tryz.prog w3 = .ok (.int .i64 ((D (t.length : Int)).length : Int)) (w3.setRow GB (iz (fill (tk e k ++ D (t.length : Int)) N)).toArray)) := fun w3 g h1 h2 => copy_fill rfl h1 h2 (by omega)
            have hql : (tk e k ++ D (t.length : Int)).length = (tk e k).length + (D (t.length : Int)).length := by simp
            have HCs : Hid (∀ (w3 : World), Arr w3 GB 5 (iz (fill (tk e k ++ D (t.length : Int)) N)) → (Builtin.copy_ #[48, 9] 3 #[.slice (some ⟨GB, (tk e k).length + (D (t.length : Int)).length, none⟩) (N - (tk e k).length - (D (t.length : Int)).length) (N - (tk e k).length - (D (t.length : Int)).length), .string (strN t)]).run Tryz.prog w3 = .ok (.int .i64 (t.length : Int)) (w3.setRow GB (iz (fill (tk e (k + 1)) N)).toArray)) := by
              intro w3 h1
              have := copy_fill_str htb h1 (by rw [hql]; omega)
              rw [hql, List.append_assoc, ← hst] at this
              rw [Nat.sub_sub]
              exact this
            have hs1 := slice_on (GB := GB) (p := (tk e k).length) (L := N - (tk e k).length) (m := (D (t.length : Int)).length) (by omega)
            have hsl2 := slice_on (GB := GB) (p := (tk e k).length + (D (t.length : Int)).length) (L := N - (tk e k).length - (D (t.length : Int)).length) (m := t.length) (by omega)
            have HNx : Hid (tk e (k + 1) = tk e (k + 1)) := rfl
            have HAn : Hid (∀ w3 : World, Arr w3 GB 5 (iz (fill (tk e k) N)) → Arr (w3.setRow GB (iz (fill (tk e k ++ D (t.length : Int)) N)).toArray) GB 5 (iz (fill (tk e k ++ D (t.length : Int)) N)) ∧ ∀ w4 : World, Arr w4 GB 5 (iz (fill (tk e k ++ D (t.length : Int)) N)) → Arr (w4.setRow GB (iz (fill (tk e (k + 1)) N)).toArray) GB 5 (iz (fill (tk e (k + 1)) N))) := fun w3 h => ⟨Arr.row h, fun w4 h4 => Arr.row h4⟩
            have HLn : Hid (N - (tk e k).length - (D (t.length : Int)).length - t.length = N - (tk e (k + 1)).length ∧ (tk e k).length + (D (t.length : Int)).length + t.length = (tk e (k + 1)).length) := ⟨by omega, by omega⟩
            generalize (iz (fill (tk e k ++ D (t.length : Int)) N)).toArray = X1 at HCo HAn
            generalize (iz (fill (tk e (k + 1)) N)).toArray = X2 at HCs HAn
            have hp1 : (tk e k).length + (D (t.length : Int)).length + t.length < N := by omega
            clear ht1 ht2 ht3 htb hm1 hst hnx hql hs2
            generalize D (t.length : Int) = DL at *
            generalize DL.length = dl at *
            generalize (tk e k).length = pl at *
            generalize t.length = tl at *
            go_wp2_with fail
            refine Calls.mono HPut.out ?_
            rintro r w3 ⟨g, rfl, hrow, hb3⟩
            have HA3 : Hid (Arr w3 GB 5 _) := Arr.later HA.out hb3 (Arr.lt HA.out)
            have hcp1 := HCo.out w3 g HA3.out hrow
            have hA4 := (HAn.out w3 HA3.out).1
            have hcp2 := HCs.out _ hA4
            have HA5 : Hid _ := (HAn.out w3 HA3.out).2 _ hA4
            have HB4 : Hid _ := below_setRow (below_setRow (HBw.out.trans (hb3.mono HBw.out.size)) HGB.out X1) HGB.out X2
            clear hb3 hA4 hrow HA3 HA HBw HPut HCo HCs HAn hix
            go_wp2_with (at_builtin; first | refine Lib.wpList_copy_run _ rfl (.tmp 53) (.tmp 58) 48 48 rfl _ _ rfl rfl hcp1 ?_ | refine Lib.wpList_copy_run _ rfl (.tmp 62) (.tmp 63) 48 9 rfl _ _ rfl rfl hcp2 ?_)
            go_roundw
            case rel => exact ⟨k + 1, by omega, by go_num, by rw [HLn.out.1, HLn.out.2], HA5.out, HB4.out⟩
            case measure => simp [intOf]; omega
          · obtain rfl : k = 5 := by omega
            have HPut : Hid _ := putNil_any e.time wr h0 (by omega)
            have HCo : Hid (∀ (w3 : World) (g : Nat), Arr w3 GB 5 (iz (fill (tk e 5) N)) → Row .u8 w3 (some ⟨g, 0, none⟩) (D e.time) → (Builtin.copy_ #[48, 48] 3 #[.slice (some ⟨GB, (tk e 5).length, none⟩) (N - (tk e 5).length) (N - (tk e 5).length), .slice (some ⟨g, 0, none⟩) dt dt]).run Tryz.prog w3 = .ok (.int .i64 (dt : Int)) (w3.setRow GB (iz (bytes0 e)).toArray)) := by
              intro w3 g h1 h2
              have := copy_fill (N := N) (sCap := dt) HDt.out h1 h2 (by omega)
              rw [HALL.out] at this
              have hf : fill (bytes0 e) N = bytes0 e := by rw [HNn.out]; exact fill_all _
              rw [hf] at this
              exact this
            have HAn : Hid (∀ w3 : World, Arr w3 GB 5 (iz (fill (tk e 5) N)) → Arr (w3.setRow GB (iz (bytes0 e)).toArray) GB 5 (iz (bytes0 e))) := fun w3 h => Arr.row h
            rw [← HDt.out] at HPut
            generalize (iz (bytes0 e)).toArray = X1 at HCo HAn
            clear hk hlt hs2
            generalize (tk e 5).length = pl at *
            generalize D e.time = DT at *
            go_wp2_with fail
            refine Calls.mono HPut.out ?_
            rintro r w3 ⟨g, rfl, hrow, hb3⟩
            have HA3 : Hid (Arr w3 GB 5 _) := Arr.later HA.out hb3 (Arr.lt HA.out)
            have hcp1 := HCo.out w3 g HA3.out hrow
            have HA4 : Hid _ := HAn.out w3 HA3.out
            have HB4 : Hid _ := below_setRow (HBw.out.trans (hb3.mono HBw.out.size)) HGB.out X1
            clear hb3 hrow HA3 HA HBw HPut HCo HAn
            go_wp2_with (at_builtin; refine Lib.wpList_copy_run _ rfl (.tmp 67) (.tmp 70) 48 48 rfl _ _ rfl rfl hcp1 ?_)
            go_ret
            refine ⟨_, rfl, ⟨some ⟨GB, 0, none⟩, N, ?_, ?_, ?_, ?_, ?_, fun h => by cases h⟩, HB4.out⟩
            · rw [HQ.out, ← HNn.out]; rfl
            · rw [HQ.out]; exact Arr.bytes HA4.out
            · rw [HQ.out]; exact HBy.out
            · rw [HQ.out, ← HNn.out]; exact Nat.le_refl _
            · unfold maxLen; omega
end Go.Proofs.YteockpllnhjooaaGreatDoor

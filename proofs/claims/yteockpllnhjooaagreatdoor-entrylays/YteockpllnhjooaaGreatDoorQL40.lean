/-
  FnEntF, FnEntG, FnSeatT.
-/
import Derived.Test.YteockpllnhjooaaGreatDoorQL23
import Derived.Test.YteockpllnhjooaaGreatDoorQL36
import Derived.Test.YteockpllnhjooaaGreatDoorQL34
import Derived.Test.YteockpllnhjooaaGreatDoorQL35
import Derived.Test.YteockpllnhjooaaGreatDoorQL32
import Derived.Test.YteockpllnhjooaaGreatDoorQL37
namespace Go.Proofs.YteockpllnhjooaaGreatDoor
open Go.RowKit NumMath
open EntMath (E textB iN bytes0)
set_option maxRecDepth 100000
set_option linter.unusedVariables false
set_option linter.unusedSimpArgs false

def T5 (e : E) : List (List Nat) := [e.feed, e.guid, e.title, e.link, e.body]
def tk (e : E) (k : Nat) : List Int := ((T5 e).take k).flatMap textB
theorem tk_zero (e : E) : tk e 0 = [] := rfl
theorem tk_all (e : E) : tk e 5 ++ D e.time = bytes0 e := by rw [EntMath.bytes0_flat]; rfl
theorem tk_succ (e : E) (k : Nat) (s : List Nat) (h : (T5 e)[k]? = some s) : tk e (k + 1) = tk e k ++ (D (s.length : Int) ++ iN s) := by
  unfold tk
  rw [List.take_add_one, h]
  simp [textB]
theorem tk_mono (e : E) (k : Nat) (h : k ≤ 5) : (tk e k).length ≤ (tk e 5).length := by
  unfold tk
  rw [List.take_of_length_le (i := 5) (by simp [T5])]
  conv => rhs; rw [← List.take_append_drop k (T5 e)]
  rw [List.flatMap_append, List.length_append]
  omega
def agg5 (e : E) : Array Value := #[.string (strN e.feed), .string (strN e.guid), .string (strN e.title), .string (strN e.link), .string (strN e.body)]
theorem T5_at (e : E) (k : Nat) (h : k < 5) : ∃ s, (T5 e)[k]? = some s ∧ (agg5 e).toList[k]? = some (.string (strN s)) ∧ s ∈ T5 e := by
  match k, h with
  | 0, _ => exact ⟨e.feed, rfl, rfl, by simp [T5]⟩
  | 1, _ => exact ⟨e.guid, rfl, rfl, by simp [T5]⟩
  | 2, _ => exact ⟨e.title, rfl, rfl, by simp [T5]⟩
  | 3, _ => exact ⟨e.link, rfl, rfl, by simp [T5]⟩
  | 4, _ => exact ⟨e.body, rfl, rfl, by simp [T5]⟩
theorem T5_fit {e : E} (h : EntMath.Fit e) : ∀ s ∈ T5 e, (∀ c ∈ s, c < 256) ∧ s.length ≤ 1600 := by
  have := h.l1; have := h.l2; have := h.l3; have := h.l4; have := h.l5
  intro s hs
  simp only [T5, List.mem_cons, List.not_mem_nil, or_false] at hs
  rcases hs with rfl | rfl | rfl | rfl | rfl
  · exact ⟨h.f1, by omega⟩
  · exact ⟨h.f2, by omega⟩
  · exact ⟨h.f3, by omega⟩
  · exact ⟨h.f4, by omega⟩
  · exact ⟨h.f5, by omega⟩
/-- What is left behind the first m of a row's rest. -/
theorem slice_on {GB p L m : Nat} (h : m < L) (w : World) : (Instr.sliceAt 48 (.slice (some ⟨GB, p, none⟩) L L) (some (.int .i64 (m : Int))) none none).run Tryz.prog w = .ok (.slice (some ⟨GB, p + m, none⟩) (L - m) (L - m)) w := by
  have h1 : (m : Int) ≤ (L : Int) := by omega
  have h2 : ¬ L = m := by omega
  go_simp
theorem size9 : (Tryz.prog.info? 9).map (fun x => x.size) = some 1 := by kernel_rfl

set_option maxHeartbeats 16000000 in
theorem entBytes_any (e : E) (w : World) (ht : MaxLen w) (hF : EFit e) :
    Calls Tryz.prog 17 #[entV e] w fun r w' => ∃ v, r = .returned v ∧ Bytes w' v (EntMath.bytes e) ∧ Below w.heap.size w w' := by
  have HC : Hid (∀ w, MaxLen w → _) := fun w ht => entRight_any e w ht hF
  have HA0 : Hid _ := EntAt.new w e
  have HB0 : Hid (Below w.heap.size w (w.alloc (.cells #[.string (strN e.feed), .string (strN e.guid), .string (strN e.title), .string (strN e.link), .string (strN e.body), .int .i64 e.time] 23))) := (Below.refl _ _).alloc (Nat.le_refl _) _
  have HT0 : Hid (MaxLen _) := MaxLen.later ht HB0.out
  clear ht
  cases hr : EntMath.right e with
  | false =>
    have HQ : Hid (EntMath.bytes e = []) := by show _ = _; unfold EntMath.bytes; rw [hr]; rfl
    rw [hr] at HC
    clear hr hF
    unfold entV at *
    go_enter Tryz.func17, Tryz.ntmps17
    go_wp2_with fail
    refine Calls.mono (HC.out _ HT0.out) ?_
    rintro r w1 ⟨rfl, hb⟩
    have HB1 : Hid _ := HB0.out.trans (hb.mono HB0.out.size)
    clear hb
    go_wp2
    go_ret
    exact ⟨_, rfl, ⟨none, 0, by rw [HQ.out]; rfl, by rw [HQ.out]; exact .inl rfl, by rw [HQ.out]; simp, by rw [HQ.out]; simp, by unfold maxLen; omega, fun _ => rfl⟩, HB1.out⟩
  | true =>
    have hfit := EntMath.right_fit hr
    have HQ : Hid (EntMath.bytes e = bytes0 e) := by show _ = _; unfold EntMath.bytes; rw [if_pos hr]
    have h0 := hfit.t0
    have h1 := hfit.t1
    have hlen := (EntMath.bytes0_len hfit).2
    have hall := tk_all e
    have HBy : Hid _ := EntMath.bytes0_byte hfit
    have HTF : Hid _ := T5_fit hfit
    rw [hr] at HC
    obtain ⟨N, hN⟩ : ∃ N, N = (bytes0 e).length := ⟨_, rfl⟩
    obtain ⟨dt, hdt⟩ : ∃ dt, dt = (D e.time).length := ⟨_, rfl⟩
    have hdl := D_len e.time
    have hsum : (tk e 5).length + dt = N := by rw [hN, ← hall, hdt]; simp
    have hmono := tk_mono e
    have HSt : Hid _ := size_any e.time
    have HNn : Hid _ := hN
    have HDt : Hid _ := hdt
    have hN2 : N ≤ 3340 := by omega
    have hdt1 : 1 ≤ dt := by omega
    have hdt2 : dt ≤ 10 := by omega
    obtain ⟨tm, htm⟩ : ∃ tm, tm = e.time := ⟨_, rfl⟩
    have hwt : IntKind.u64.wrap e.time = e.time := by rw [IntKind.wrap_u64]; omega
    have HALL : Hid _ := hall
    have HSum : Hid _ := hsum
    have HMo : Hid _ := hmono
    clear hr hF hfit hN hdt hdl hlen hall hsum hmono htm
    unfold entV at *
    go_enter Tryz.func17, Tryz.ntmps17
    go_wp2_with fail
    refine Calls.mono (HC.out _ HT0.out) ?_
    rintro r w1 ⟨rfl, hb⟩
    have HA1 : Hid _ := HA0.out.later hb HA0.out.lt
    have HB1 : Hid _ := HB0.out.trans (hb.mono HB0.out.size)
    obtain ⟨c0, c1, c2, c3, c4, c5⟩ := HA1.out.cells
    have hlt := HA1.out.lt
    clear hb HA0 HB0 HT0
    go_wp2_with fail
    refine Calls.mono (HSt.out _ h0 (by omega)) ?_
    rintro r w2 ⟨rfl, hw2⟩
    subst w2
    rw [← HDt.out]
    go_wp2
    have HG2 : Hid (Arr (w1.alloc (.cells #[.string (strN e.feed), .string (strN e.guid), .string (strN e.title), .string (strN e.link), .string (strN e.body)] 70)) w1.heap.size 70 (agg5 e).toList) := Arr.new w1 _ (agg5 e).toList rfl
    have HB2 : Hid _ := HB1.out.alloc HB1.out.size (.cells #[.string (strN e.feed), .string (strN e.guid), .string (strN e.title), .string (strN e.link), .string (strN e.body)] 70)
    have HGw : Hid (w.heap.size < w1.heap.size) := hlt
    clear c0 c1 c2 c3 c4 c5 HA1 HB1
    generalize w1.alloc _ = W2 at *
    generalize w1.heap.size = G4 at *
    clear hlt
    go_loop [5, 32] (fun s i => ∃ k : Nat, k ≤ 5 ∧ i = .int .i64 (k : Int) ∧ s = .int .i64 ((dt + (tk e k).length : Nat) : Int)) (fun _ i => 5 - (intOf i).toNat)
    case atStart => exact ⟨0, by omega, rfl, by rw [tk_zero]; rfl⟩
    case round =>
      obtain ⟨k, hk, rfl, rfl⟩ := hrel
      by_cases hlt : k < 5
      · obtain ⟨t, ht1, ht2, ht3⟩ := T5_at e k hlt
        obtain ⟨htb, htl⟩ := HTF.out t ht3
        have hix := run_index_row (P := Tryz.prog) (w := W2) 70 9 5 (agg5 e).toList k (.string (strN t)) Tryz.underlying70 size9 (Tryz.isAgg9 W2) hlt ht2
        unfold agg5 at hix
        have hz := strN_size t
        have hwz : IntKind.u64.wrap (t.length : Int) = (t.length : Int) := by rw [IntKind.wrap_u64]; omega
        have HSz : Hid _ := size_any (t.length : Int) W2 (by omega) (by omega)
        have hm1 := HMo.out (k + 1) (by omega)
        have hst := tk_succ e k t ht1
        have hs2 := HSum.out
        have hle : dt + (tk e k).length + ((D (t.length : Int)).length + t.length) ≤ N := by
          rw [hst] at hm1
          simp only [List.length_append, EntMath.iN_len] at hm1
          omega
        have HNx : Hid (dt + (tk e (k + 1)).length = dt + (tk e k).length + ((D (t.length : Int)).length + t.length)) := by
          show _ = _; rw [hst]; simp only [List.length_append, EntMath.iN_len]; omega
        generalize (D (t.length : Int)).length = dl at *
        generalize dt + (tk e k).length = acc at *
        generalize t.length = tl at *
        clear ht1 ht2 ht3 htb hm1 hst hs2
        go_wp2_with (go_at_call 35; refine Calls.mono HSz.out ?_; rintro r w3 ⟨rfl, hw3⟩; subst w3)
        go_round
        case rel => exact ⟨k + 1, by omega, by go_num, by rw [HNx.out]; go_num⟩
        case measure => simp [intOf]; omega
      · obtain rfl : k = 5 := by omega
        have hN5 : dt + (tk e 5).length = N := by have := HSum.out; omega
        rw [hN5]
        clear hN5 hk hlt
        obtain ⟨i0, hi, hz0, hz1, hz2⟩ := info_parts Tryz.info5
        go_wp2_with (at_make; refine wpList_make_full _ rfl _ _ 48 rfl w.heap.size 5 i0 (.int .u8 0) 1 Tryz.underlying48 hi hz0 hz1 _ _ _ _ N rfl rfl rfl rfl (by rw [hz2]; omega) (by unfold maxLen; omega) HB2.out.size ?_; intro w0 hown0 hgrow0; rw [made0] at hown0; have hb0 : Below W2.heap.size W2 w0 := (Below.refl _ _).grown hgrow0 (Nat.le_refl _) (fun k h => by cases h); have HG0 : Hid (Arr w0 G4 70 (agg5 e).toList) := Arr.later HG2.out hb0 (Arr.lt HG2.out); have HB3 : Hid _ := HB2.out.trans (hb0.mono HB2.out.size); have c0 : w0.cell? ⟨G4, 0, none⟩ = some (.string (strN e.feed)) := Arr.cell HG0.out 0; have c1 : w0.cell? ⟨G4, 1, none⟩ = some (.string (strN e.guid)) := Arr.cell HG0.out 1; have c2 : w0.cell? ⟨G4, 2, none⟩ = some (.string (strN e.title)) := Arr.cell HG0.out 2; have c3 : w0.cell? ⟨G4, 3, none⟩ = some (.string (strN e.link)) := Arr.cell HG0.out 3; have c4 : w0.cell? ⟨G4, 4, none⟩ = some (.string (strN e.body)) := Arr.cell HG0.out 4; have HAr : Hid (Arr w0 W2.heap.size 5 (iz (fill (tk e 0) N))) := by { show Arr _ _ _ _; rw [tk_zero, fill_nil]; have := own_arr hown0; simpa [u8v, iz] using this }; have HGB : Hid (w.heap.size ≤ W2.heap.size) := HB2.out.size; clear hown0 hgrow0 hb0)
        clear HG0 c0 c1 c2 c3 c4 HG2 HB2 hi hz0 hz1 hz2 i0
        generalize W2.heap.size = GB at *
        go_loopw [9, 49] (fun t9 i wr => ∃ k : Nat, k ≤ 5 ∧ i = .int .i64 (k : Int) ∧ t9 = .slice (some ⟨GB, (tk e k).length, none⟩) (N - (tk e k).length) (N - (tk e k).length) ∧ Arr wr GB 5 (iz (fill (tk e k) N)) ∧ Below w.heap.size w wr) (fun _ i _ => 5 - (intOf i).toNat)
        case atStart => exact ⟨0, by omega, rfl, rfl, HAr.out, HB3.out⟩
        case round =>
          clear HAr HB3
          obtain ⟨k, hk, rfl, rfl, hA, hBw⟩ := hrel
          have HA : Hid _ := hA
          have HBw : Hid _ := hBw
          clear hA hBw
          have hs2 := HSum.out
          by_cases hlt : k < 5
          · obtain ⟨t, ht1, ht2, ht3⟩ := T5_at e k hlt
            obtain ⟨htb, htl⟩ := HTF.out t ht3
            have hix := run_index_row (P := Tryz.prog) (w := wr) 70 9 5 (agg5 e).toList k (.string (strN t)) Tryz.underlying70 size9 (Tryz.isAgg9 wr) hlt ht2
            unfold agg5 at hix
            have hz := strN_size t
            have hwz : IntKind.u64.wrap (t.length : Int) = (t.length : Int) := by rw [IntKind.wrap_u64]; omega
            have HPut : Hid _ := putNil_any (t.length : Int) wr (by omega) (by omega)
            have hm1 := HMo.out (k + 1) (by omega)
            have hst := tk_succ e k t ht1
            have hnx : (tk e (k + 1)).length = (tk e k).length + (D (t.length : Int)).length + t.length := by rw [hst]; simp only [List.length_append, EntMath.iN_len]; omega
            have HCo : Hid (∀ (w3 : World) (g : Nat), Arr w3 GB 5 (iz (fill (tk e k) N)) → Row .u8 w3 (some ⟨g, 0, none⟩) (D (t.length : Int)) → (Builtin.copy_ #[48, 48] 3 #[.slice (some ⟨GB, (tk e k).length, none⟩) (N - (tk e k).length) (N - (tk e k).length), .slice (some ⟨g, 0, none⟩) (D (t.length : Int)).length (D (t.length : Int)).length]).run Tryz.prog w3 = .ok (.int .i64 ((D (t.length : Int)).length : Int)) (w3.setRow GB (iz (fill (tk e k ++ D (t.length : Int)) N)).toArray)) := fun w3 g h1 h2 => copy_fill rfl h1 h2 (by omega)
            have hql : (tk e k ++ D (t.length : Int)).length = (tk e k).length + (D (t.length : Int)).length := by simp
            have HCs : Hid (∀ (w3 : World), Arr w3 GB 5 (iz (fill (tk e k ++ D (t.length : Int)) N)) → (Builtin.copy_ #[48, 9] 3 #[.slice (some ⟨GB, (tk e k).length + (D (t.length : Int)).length, none⟩) (N - (tk e k).length - (D (t.length : Int)).length) (N - (tk e k).length - (D (t.length : Int)).length), .string (strN t)]).run Tryz.prog w3 = .ok (.int .i64 (t.length : Int)) (w3.setRow GB (iz (fill (tk e (k + 1)) N)).toArray)) := by
              intro w3 h1
              have := copy_fill_str htb h1 (by rw [hql]; omega)
              rw [hql, List.append_assoc, ← hst] at this
              rw [Nat.sub_sub]
              exact this
            have hs1 := slice_on (GB := GB) (p := (tk e k).length) (L := N - (tk e k).length) (m := (D (t.length : Int)).length) (by omega)
            have hsl2 := slice_on (GB := GB) (p := (tk e k).length + (D (t.length : Int)).length) (L := N - (tk e k).length - (D (t.length : Int)).length) (m := t.length) (by omega)
            have HNx : Hid (tk e (k + 1) = tk e (k + 1)) := rfl
            have HAn : Hid (∀ w3 : World, Arr w3 GB 5 (iz (fill (tk e k) N)) → Arr (w3.setRow GB (iz (fill (tk e k ++ D (t.length : Int)) N)).toArray) GB 5 (iz (fill (tk e k ++ D (t.length : Int)) N)) ∧ ∀ w4 : World, Arr w4 GB 5 (iz (fill (tk e k ++ D (t.length : Int)) N)) → Arr (w4.setRow GB (iz (fill (tk e (k + 1)) N)).toArray) GB 5 (iz (fill (tk e (k + 1)) N))) := fun w3 h => ⟨Arr.row h, fun w4 h4 => Arr.row h4⟩
            have HLn : Hid (N - (tk e k).length - (D (t.length : Int)).length - t.length = N - (tk e (k + 1)).length ∧ (tk e k).length + (D (t.length : Int)).length + t.length = (tk e (k + 1)).length) := ⟨by omega, by omega⟩
            generalize (iz (fill (tk e k ++ D (t.length : Int)) N)).toArray = X1 at HCo HAn
            generalize (iz (fill (tk e (k + 1)) N)).toArray = X2 at HCs HAn
            have hp1 : (tk e k).length + (D (t.length : Int)).length + t.length < N := by omega
            clear ht1 ht2 ht3 htb hm1 hst hnx hql hs2
            generalize D (t.length : Int) = DL at *
            generalize DL.length = dl at *
            generalize (tk e k).length = pl at *
            generalize t.length = tl at *
            go_wp2_with fail
            refine Calls.mono HPut.out ?_
            rintro r w3 ⟨g, rfl, hrow, hb3⟩
            have HA3 : Hid (Arr w3 GB 5 _) := Arr.later HA.out hb3 (Arr.lt HA.out)
            have hcp1 := HCo.out w3 g HA3.out hrow
            have hA4 := (HAn.out w3 HA3.out).1
            have hcp2 := HCs.out _ hA4
            have HA5 : Hid _ := (HAn.out w3 HA3.out).2 _ hA4
            have HB4 : Hid _ := below_setRow (below_setRow (HBw.out.trans (hb3.mono HBw.out.size)) HGB.out X1) HGB.out X2
            clear hb3 hA4 hrow HA3 HA HBw HPut HCo HCs HAn hix
            go_wp2_with (at_builtin; first | refine Lib.wpList_copy_run _ rfl (.tmp 53) (.tmp 58) 48 48 rfl _ _ rfl rfl hcp1 ?_ | refine Lib.wpList_copy_run _ rfl (.tmp 62) (.tmp 63) 48 9 rfl _ _ rfl rfl hcp2 ?_)
            go_roundw
            case rel => exact ⟨k + 1, by omega, by go_num, by rw [HLn.out.1, HLn.out.2], HA5.out, HB4.out⟩
            case measure => simp [intOf]; omega
          · obtain rfl : k = 5 := by omega
            have HPut : Hid _ := putNil_any e.time wr h0 (by omega)
            have HCo : Hid (∀ (w3 : World) (g : Nat), Arr w3 GB 5 (iz (fill (tk e 5) N)) → Row .u8 w3 (some ⟨g, 0, none⟩) (D e.time) → (Builtin.copy_ #[48, 48] 3 #[.slice (some ⟨GB, (tk e 5).length, none⟩) (N - (tk e 5).length) (N - (tk e 5).length), .slice (some ⟨g, 0, none⟩) dt dt]).run Tryz.prog w3 = .ok (.int .i64 (dt : Int)) (w3.setRow GB (iz (bytes0 e)).toArray)) := by
              intro w3 g h1 h2
              have := copy_fill (N := N) (sCap := dt) HDt.out h1 h2 (by omega)
              rw [HALL.out] at this
              have hf : fill (bytes0 e) N = bytes0 e := by rw [HNn.out]; exact fill_all _
              rw [hf] at this
              exact this
            have HAn : Hid (∀ w3 : World, Arr w3 GB 5 (iz (fill (tk e 5) N)) → Arr (w3.setRow GB (iz (bytes0 e)).toArray) GB 5 (iz (bytes0 e))) := fun w3 h => Arr.row h
            rw [← HDt.out] at HPut
            generalize (iz (bytes0 e)).toArray = X1 at HCo HAn
            clear hk hlt hs2
            generalize (tk e 5).length = pl at *
            generalize D e.time = DT at *
            go_wp2_with fail
            refine Calls.mono HPut.out ?_
            rintro r w3 ⟨g, rfl, hrow, hb3⟩
            have HA3 : Hid (Arr w3 GB 5 _) := Arr.later HA.out hb3 (Arr.lt HA.out)
            have hcp1 := HCo.out w3 g HA3.out hrow
            have HA4 : Hid _ := HAn.out w3 HA3.out
            have HB4 : Hid _ := below_setRow (HBw.out.trans (hb3.mono HBw.out.size)) HGB.out X1
            clear hb3 hrow HA3 HA HBw HPut HCo HAn
            go_wp2_with (at_builtin; refine Lib.wpList_copy_run _ rfl (.tmp 67) (.tmp 70) 48 48 rfl _ _ rfl rfl hcp1 ?_)
            go_ret
            refine ⟨_, rfl, ⟨some ⟨GB, 0, none⟩, N, ?_, ?_, ?_, ?_, ?_, fun h => by cases h⟩, HB4.out⟩
            · rw [HQ.out, ← HNn.out]; rfl
            · rw [HQ.out]; exact Arr.bytes HA4.out
            · rw [HQ.out]; exact HBy.out
            · rw [HQ.out, ← HNn.out]; exact Nat.le_refl _
            · unfold maxLen; omega
end Go.Proofs.YteockpllnhjooaaGreatDoor
namespace Go.Proofs.YteockpllnhjooaaGreatDoor
open Go.RowKit NumMath
open EntMath (E textB iN nI bytes0)
set_option maxRecDepth 100000
set_option linter.unusedVariables false
set_option linter.unusedSimpArgs false
attribute [-simp] Tryz.isAgg33 Tryz.zeroValue33

/-- What the calls read of the package's variables. -/
structure Env (w : World) : Prop where
  tabs : Tabs w
  max : MaxLen w
theorem Env.later {w w' : World} (h : Env w) (hb : Below w.heap.size w w') : Env w' := ⟨h.tabs.later hb h.tabs.lt, h.max.later hb⟩
/-- An entry's id. -/
def idN (e : E) : List Nat := if EntMath.right e = true then ShaMath.digest (nI (bytes0 e)) else List.replicate 32 0
theorem idN_len (e : E) : (idN e).length = 32 := by unfold idN; split <;> rfl

set_option maxHeartbeats 16000000 in
theorem entId_any (e : E) (w : World) (ht : Env w) (hF : EFit e) :
    Calls Tryz.prog 19 #[entV e] w fun r w' => r = .returned (.agg (u8v (idN e)).toArray) ∧ Below w.heap.size w w' := by
  have HC : Hid (∀ w, MaxLen w → _) := fun w ht => entBytes_any e w ht hF
  obtain ⟨z26, i26⟩ := zero_of_info zero26
  obtain ⟨Z, hZ⟩ : ∃ Z, Z = u8v (List.replicate 32 0) := ⟨_, rfl⟩
  rw [← hZ] at z26
  have HZ : Hid _ := hZ
  have HZl : Hid (Z.length = 32) := by show _ = _; rw [hZ, u8v_len]; simp
  have HZo : Hid (∀ v ∈ Z, v.oneCell' = true) := by rw [hZ]; exact u8v_one _
  have HA0 : Hid _ := EntAt.new w e
  have HB0 : Hid (Below w.heap.size w ((w.alloc (.cells #[.string (strN e.feed), .string (strN e.guid), .string (strN e.title), .string (strN e.link), .string (strN e.body), .int .i64 e.time] 23)).alloc (.cells Z.toArray 33))) := ((Below.refl _ _).alloc (Nat.le_refl _) _).alloc (by simp) _
  have HR0 : Hid (Arr ((w.alloc (.cells #[.string (strN e.feed), .string (strN e.guid), .string (strN e.title), .string (strN e.link), .string (strN e.body), .int .i64 e.time] 23)).alloc (.cells Z.toArray 33)) (w.heap.size + 1) 33 Z) := Arr.new _ _ Z (by simp)
  have HT0 : Hid (Env _) := ht.later HB0.out
  have HLen : Hid _ := EntMath.bytes_len e
  have HNil : Hid _ := EntMath.bytes_nil e
  clear ht hF hZ i26
  unfold entV at *
  go_enter Tryz.func19, Tryz.ntmps19
  go_wp2_with fail
  generalize World.alloc (World.alloc w _) _ = W0 at *
  generalize hG : w.heap.size + 1 = G at *
  have hGw : w.heap.size ≤ G := by omega
  clear hG
  refine Calls.mono (HC.out _ HT0.out.max) ?_
  rintro r w1 ⟨v, rfl, hby, hb⟩
  obtain ⟨a, c, rfl, hrow, hbb, hc, hm, hn⟩ := hby
  have HR1 : Hid (Arr w1 G 33 Z) := Arr.later HR0.out hb (Arr.lt HR0.out)
  have HB1 : Hid _ := HB0.out.trans (hb.mono HB0.out.size)
  have HT1 : Hid (Env w1) := HT0.out.later hb
  have HSu : Hid (Calls Tryz.prog 22 #[.slice (some ⟨w1.heap.size, 0, none⟩) 1 1] (w1.alloc (.cells #[.slice a (EntMath.bytes e).length c] 48)) fun r w' => r = .returned (.agg (u8v (ShaMath.digest (nats (EntMath.bytes e)))).toArray) ∧ Below w1.heap.size w1 w') := by
    have hps := lit_parts w1 [⟨a, EntMath.bytes e, c⟩] 48 w1.heap.size rfl (by intro p hp; simp at hp; subst hp; exact part_ok hrow hbb hc hm)
    have hbal : Below w1.heap.size w1 (w1.alloc (.cells #[.slice a (EntMath.bytes e).length c] 48)) := (Below.refl _ _).alloc (Nat.le_refl _) _
    have := shaSum_any (some ⟨w1.heap.size, 0, none⟩) [⟨a, EntMath.bytes e, c⟩] 1 (w1.alloc (.cells #[.slice a (EntMath.bytes e).length c] 48)) ((HT1.out.later hbal).tabs) hps (by simp) (by decide) (by have := HLen.out; simp [allB]; omega)
    have ea : allB [⟨a, EntMath.bytes e, c⟩] = EntMath.bytes e := by simp [allB]
    rw [ea] at this
    refine this.mono ?_
    rintro r w' ⟨rfl, hb⟩
    exact ⟨rfl, hbal.trans (hb.mono hbal.size)⟩
  have HID : Hid (EntMath.right e = true → ShaMath.digest (nats (EntMath.bytes e)) = idN e) := by
    intro h; unfold idN; rw [if_pos h]; unfold EntMath.bytes; rw [if_pos h]; rfl
  have HID0 : Hid (EntMath.right e = false → Z = u8v (idN e)) := by
    intro h; unfold idN; rw [if_neg (by rw [h]; simp)]; exact HZ.out
  generalize nats (EntMath.bytes e) = bn at *
  generalize (EntMath.bytes e).length = L at *
  clear hrow hbb hc hm hn hb HR0 HB0 HT0 HT1
  by_cases hL : L = 0
  · have HQ : Hid (Z = u8v (idN e)) := HID0.out (HNil.out.1 hL)
    subst hL
    go_wp2_with (refine wpList_store_arr rfl 33 (.tmp 2) (.tmp 9) rfl G 33 Z Z rfl rfl HR1.out (by rw [HZl.out]; exact size26) rfl HZo.out ?_)
    refine ret_arr G 33 Z (.array 32 5) rfl rfl (Arr.row HR1.out) Tryz.underlying33 rfl (by rw [HZl.out]; exact size26) rfl ⟨by rw [HQ.out], below_setRow HB1.out hGw _⟩
  · have hR : EntMath.right e = true := by
      cases h : EntMath.right e with
      | true => rfl
      | false => exact absurd (HNil.out.2 h) hL
    have HQ : Hid _ := HID.out hR
    have hLp : 0 < L := by omega
    have hLp2 : (0 : Int) < (L : Int) := by omega
    clear hR hL HID HID0 HNil
    obtain ⟨R, hRR⟩ : ∃ R, R = u8v (ShaMath.digest bn) := ⟨_, rfl⟩
    have HRl : Hid (R.length = 32) := by show _ = _; rw [hRR, u8v_len]; rfl
    have HRo : Hid (∀ v ∈ R, v.oneCell' = true) := by rw [hRR]; exact u8v_one _
    rw [← hRR] at HSu
    have HRR : Hid (R = u8v (idN e)) := by show _ = _; rw [hRR, HQ.out]
    clear hRR
    go_wp2_with fail
    refine Calls.mono HSu.out ?_
    rintro r w2 ⟨rfl, hb2⟩
    have HR2 : Hid (Arr w2 G 33 Z) := Arr.later HR1.out hb2 (Arr.lt HR1.out)
    have HB2 : Hid _ := HB1.out.trans (hb2.mono HB1.out.size)
    clear hb2
    go_wp2_with (refine wpList_store_arr rfl 33 (.tmp 2) (.tmp 12) rfl G 33 Z R rfl rfl HR2.out (by rw [HRl.out]; exact size26) (by rw [HZl.out, HRl.out]) HRo.out ?_)
    refine ret_arr G 33 R (.array 32 5) rfl rfl (Arr.row HR2.out) Tryz.underlying33 rfl (by rw [HRl.out]; exact size26) rfl ⟨by rw [HRR.out], below_setRow HB2.out hGw _⟩
end Go.Proofs.YteockpllnhjooaaGreatDoor
namespace Go.Proofs.YteockpllnhjooaaGreatDoor
open Go.RowKit NumMath
open EntMath (E)
set_option maxRecDepth 100000
set_option linter.unusedVariables false
set_option linter.unusedSimpArgs false

set_option maxHeartbeats 4000000 in
theorem seatTitle_any (ao : Option Addr) (cap : Nat) (l : List Nat) (w : World) (hr : VRow w ao (hv16 l)) (hv : ∀ r ∈ l, r < 65536) (hc : l.length ≤ cap) (hm : cap ≤ maxLen) (hl : l.length ≤ 1000000) :
    Calls Tryz.prog 14 #[.slice ao l.length cap] w fun e w' => e = .returned (.string (strN (TxtMath.cutB (seatT l) 120))) ∧ Below w.heap.size w w' := by
  have HR : Hid _ := seatRunes_any ao cap l w hr hv hc hm hl
  have h1 := seatT_lt l
  have h2 := seatT_len l
  have HC : Hid (∀ w, _) := fun w => refCut_any (seatT l) 120 w h1 (by omega) (by omega)
  generalize seatT l = s at *
  generalize l.length = n at *
  clear hr hv h1 h2
  go_enter Tryz.func14, Tryz.ntmps14
  go_wp2_with fail
  refine Calls.mono HR.out ?_
  rintro r w1 ⟨rfl, hb1⟩
  have HB1 : Hid _ := hb1
  clear hb1
  go_wp2_with fail
  refine Calls.mono (HC.out _) ?_
  rintro r w2 ⟨rfl, hb2⟩
  have HB2 : Hid _ := HB1.out.trans (hb2.mono HB1.out.size)
  clear hb2
  go_wp2
  go_ret
  exact ⟨rfl, HB2.out⟩

/-- The seat's entry with a title and a body. -/
def seatX (k j a : Nat) (T B : List Nat) : E := ⟨(seatE k j a).feed, (seatE k j a).guid, T, (seatE k j a).link, B, (seatE k j a).time⟩
theorem seatX_right (k j a : Nat) (T B : List Nat) (hT : TxtMath.cutB T 120 = T) (hB : TxtMath.cutB B 400 = B) : EntMath.right (seatX k j a T B) = true := by
  refine EntMath.clean_right (e := seatX k j a T B) ?_
  have h1 := addrs_ok _ (seatA5_mem k)
  have h2 := guids_ok ⟨j % 16, by omega⟩
  have h4 := links_ok _ (tab6_mem links6 (j / 16 % 2) (by show _ < 2; omega))
  unfold EntMath.clean seatX seatE
  simp only [] at h2 ⊢
  rw [h1, h2.1, hT, h4.1, hB]
  have hg : ∀ l t, EntMath.guidOf [103, 97 + j % 16] l t = [103, 97 + j % 16] := fun l t => by unfold EntMath.guidOf; rw [if_neg (by simp)]
  rw [EntMath.cleanG_is (by rw [hg]; simp) (by rw [hg]; exact h2.2) (by omega) (by omega), hg]
end Go.Proofs.YteockpllnhjooaaGreatDoor

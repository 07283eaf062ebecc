/-
  FnAddrE, FnAddrF.
-/
import Derived.Test.YteockpllnhjooaaGreatDoorQC16
import Derived.Laws.Runes
import Derived.Deep.QuietTactic
import Derived.WalkMore
import Derived.Test.YteockpllnhjooaaGreatDoorQC11
namespace Go.Proofs.YteockpllnhjooaaGreatDoor
open Go.RowKit NumMath
open AddrMath (pre post is No Ends cut3 colon splitD lower small labC isLab isHost isPort digit value hexV hexAt hexD escape meant plain extra)
set_option maxRecDepth 100000
set_option linter.unusedVariables false
set_option linter.unusedSimpArgs false

/-- A rune as a string. -/
theorem encode_strN (r : Nat) (h : TxtMath.valid r = true) : Utf8.encode (r : Int) = strN (TxtMath.enc r) := by
  have hv : Utf8.valid (r : Int) = true := by
    have : r < 55296 ∨ (57344 ≤ r ∧ r ≤ 1114111) := by simpa [TxtMath.valid] using h
    unfold Utf8.valid
    simp
    omega
  unfold Utf8.encode TxtMath.enc
  simp only [hv, if_true, Int.toNat_natCast]
  split
  · rfl
  · split
    · rfl
    · split
      · rfl
      · rfl
theorem run_slice_from {w : World} (l : List Nat) (k1 : IntKind) (i : Nat) (h1 : i ≤ l.length) :
    (Instr.sliceAt 9 (.string (strN l)) (some (.int k1 (i : Int))) none none).run Tryz.prog w = .ok (.string (strN (l.drop i))) w := by
  rw [run_sliceAt_string w 9 _ _ _ _ Tryz.underlying9]
  have e : strN (l.drop i) = (strN l).extract i l.length := by rw [strN_extract]; rw [List.take_of_length_le (by simp)]
  rw [e]
  simp [Instr.slice, run_underlying Tryz.underlying9, Instr.sliceBounds, run_sliceBound, strN_size, h1]
def signsQ : List Nat := [33, 36, 38, 39, 40, 41, 42, 43, 44, 59, 61, 58, 64, 47, 63]
theorem signsQ_lt : ∀ c ∈ signsQ, c < 128 := by decide
theorem signsQ_ascii : ∀ r : Fin 128, decide (0 ≤ Lib.indexByte [33, 36, 38, 39, 40, 41, 42, 43, 44, 59, 61, 58, 64, 47, 63] (r.val.toUInt8)) = extra true r.val := by decide +kernel
theorem extra_high (r : Nat) (h : 128 ≤ r) : extra true r = false := by
  cases e : extra true r with
  | false => rfl
  | true => have := (AddrMath.ok_lt (q := true) (b := r) (by simp [e])).1; omega
theorem indexByte_no : ∀ (l : List Nat) (c : Nat), c < 256 → 128 ≤ c → (∀ x ∈ l, x < 128) → Lib.indexByte (l.map fun n => UInt8.ofNat n) (UInt8.ofNat c) = -1
  | [], c, _, _, _ => rfl
  | x :: t, c, h1, h2, h => by
    have hx := h x (by simp)
    have ih := indexByte_no t c h1 h2 (fun y hy => h y (by simp [hy]))
    show (if (UInt8.ofNat x == UInt8.ofNat c) = true then (0 : Int) else if Lib.indexByte (t.map fun n => UInt8.ofNat n) (UInt8.ofNat c) == -1 then -1 else _) = -1
    rw [ofNat_eq (by omega) h1, if_neg (by simp; omega), ih]
    rfl

set_option maxRecDepth 100000 in
set_option maxHeartbeats 4000000 in
theorem indexRune_high (r : Nat) (w : World) (hv : TxtMath.valid r = true) (h128 : 128 ≤ r) :
    Calls Tryz.prog 100 #[.string ⟨#[33, 36, 38, 39, 40, 41, 42, 43, 44, 59, 61, 58, 64, 47, 63]⟩, .int .i32 (r : Int)] w fun e w' => e = .returned (.int .i64 (-1)) ∧ Below w.heap.size w w' := by
  have hr := TxtMath.valid_le hv
  have hS : (⟨#[33, 36, 38, 39, 40, 41, 42, 43, 44, 59, 61, 58, 64, 47, 63]⟩ : ByteArray) = strN signsQ := rfl
  rw [hS]
  have hsz : (strN signsQ).size = 15 := strN_size _
  have HLt : Hid (∀ c ∈ signsQ, c < 128) := signsQ_lt
  have HLn : Hid (signsQ.length = 15) := rfl
  clear hS
  generalize signsQ = S at *
  by_cases he : r = 65533
  · subst he
    have HI0 : Hid (Iter (w.alloc (.stringIter (strN S) 0)) w.heap.size S 0) := Iter.new _ S _ rfl
    have HB0 : Hid (Below w.heap.size w (w.alloc (.stringIter (strN S) 0))) := (Below.refl _ w).alloc (Nat.le_refl _) _
    go_enter Tryz.func100, Tryz.ntmps100
    go_wp2
    go_loopw [] (fun wr => ∃ k : Nat, Iter wr w.heap.size S k ∧ Below w.heap.size w wr) (fun wr => S.length - wr.iterPos w.heap.size)
    case atStart => exact ⟨0, HI0.out, HB0.out⟩
    case round =>
      clear HI0 HB0
      obtain ⟨k, hit, hbw⟩ := hrel
      have hlt := hit.lt
      have HIT : Hid _ := hit
      have HBW : Hid _ := hbw
      by_cases hp : k < S.length
      · obtain ⟨x, n, hnx, hv, hr, hn, hpn, hru, hdec⟩ := next_some hit (fun c hc => by have := HLt.out c hc; omega) hp
        obtain ⟨c, hc⟩ : ∃ c, S[k]? = some c := ⟨S[k], List.getElem?_eq_getElem hp⟩
        have hc128 := HLt.out c (List.mem_of_getElem? hc)
        have hd2 := AddrMath.dec_ascii hc hc128
        rw [hd2] at hdec
        obtain ⟨rfl, rfl⟩ := Prod.mk.inj hdec
        have HI2 : Hid _ := hit.set (k + 1)
        have HB2 : Hid _ := Lib.below_iterAt hbw (k := w.heap.size) (by omega) (strN S) (k + 1)
        have HM : Hid (S.length - (k + 1) < S.length - wr.iterPos w.heap.size) := by
          show _ < _; rw [Iter.pos HIT.out]; omega
        have hne : ((c : Int) == 65533) = false := by simp; omega
        clear hit hbw hru hdec hd2 hv hc hn
        generalize wr.iterAt w.heap.size (strN S) (k + 1) = w1 at *
        go_wp2
        go_roundw
        case rel => exact ⟨k + 1, HI2.out, HB2.out⟩
        case measure => rw [Iter.pos HI2.out]; exact HM.out
      · have hnx := next_none (l := S) hit hp
        clear hit hbw
        go_wp2
        go_ret
        exact ⟨rfl, HBW.out⟩
  · have henc := encode_strN r hv
    have hel := TxtMath.enc_len r
    have heg := TxtMath.enc_ge r h128 hr
    have hel2 : 2 ≤ (TxtMath.enc r).length := by
      unfold TxtMath.enc; rw [if_neg (by omega)]
      repeat' split
      all_goals simp
    have hval : Utf8.valid (r : Int) = true := by
      have : r < 55296 ∨ (57344 ≤ r ∧ r ≤ 1114111) := by simpa [TxtMath.valid] using hv
      unfold Utf8.valid
      simp
      omega
    generalize TxtMath.enc r = E at *
    obtain ⟨n, hn⟩ : ∃ n, n + 1 = E.length := ⟨E.length - 1, by omega⟩
    have hesz : (strN E).size = n + 1 := by rw [strN_size, hn]
    obtain ⟨c, hc⟩ : ∃ c, E[n]? = some c := ⟨E[n], List.getElem?_eq_getElem (by omega)⟩
    have hc128 := heg c (List.mem_of_getElem? hc)
    have hn3 : 1 ≤ n ∧ n ≤ 3 := by omega
    obtain ⟨x, hx⟩ : ∃ x, S[n]? = some x := ⟨S[n]'(by rw [HLn.out]; omega), List.getElem?_eq_getElem _⟩
    have hx128 := HLt.out x (List.mem_of_getElem? hx)
    have hixS : ∀ w, (Instr.index 9 (.string (strN S)) (.int .i64 (n : Int))).run Tryz.prog w = .ok (.int .u8 (x : Int)) w := by
      intro w
      have := index_strN S (fun c hc => by have := HLt.out c hc; omega) n (by rw [HLn.out]; omega) .i64 w
      rw [hx] at this; exact this
    have hixE : ∀ w, (Instr.index 9 (.string (strN E)) (.int .i64 (n : Int))).run Tryz.prog w = .ok (.int .u8 (c : Int)) w := by
      intro w
      have := index_strN E (fun d hd => (heg d hd).2) n (by omega) .i64 w
      rw [hc] at this; exact this
    have hsl : ∀ w, (Instr.sliceAt 9 (.string (strN S)) (some (.int .i64 ((n : Int) + 1))) none none).run Tryz.prog w = .ok (.string (strN (S.drop (n + 1)))) w := by
      intro w
      have := run_slice_from (w := w) S .i64 (n + 1) (by rw [HLn.out]; omega)
      rw [show ((n + 1 : Nat) : Int) = (n : Int) + 1 by omega] at this
      exact this
    have HIB : Hid (∀ w, Calls Tryz.prog 113 #[.string (strN (S.drop (n + 1))), .int .u8 (c : Int)] w fun e w' => e = .returned (.int .i64 (-1)) ∧ w' = w) := by
      intro w
      refine (strings_IndexByte (strN (S.drop (n + 1))) (c : Int) w).mono ?_
      rintro e w' ⟨rfl, rfl⟩
      refine ⟨?_, rfl⟩
      rw [strN_data]
      have := indexByte_no (S.drop (n + 1)) c hc128.2 hc128.1 (fun y hy => HLt.out y (List.mem_of_mem_drop hy))
      rw [show (c : Int).toNat.toUInt8 = UInt8.ofNat c by simp [Nat.toUInt8], this]
    have hne : ((x : Int) != (c : Int)) = true := by simp; omega
    have HV : Hid (∀ w, Calls Tryz.prog 114 #[.int .i32 (r : Int)] w fun e w' => e = .returned (.bool true) ∧ w' = w) := by
      intro w
      refine (utf8_ValidRune (r : Int) w).mono ?_
      rintro e w' ⟨rfl, rfl⟩
      refine ⟨ret_bool ?_, rfl⟩
      have : r < 55296 ∨ (57344 ≤ r ∧ r ≤ 1114111) := by simpa [TxtMath.valid] using hv
      unfold Lib.validRune
      apply decide_eq_true
      omega
    clear heg hc hx hn
    go_enter Tryz.func100, Tryz.ntmps100
    have he1 : ((r : Int) == 65533) = false := by simp; omega
    have he2 : ¬ ((r : Int) = 65533) := by omega
    have hcv : ∀ w, (convert 21 9 (.int .i32 (r : Int))).run Tryz.prog w = .ok (.string (strN E)) w := by
      intro w
      rw [run_convert_int_string w 21 9 .i32 (r : Int) (by rw [Tryz.underlying21]; rfl) Tryz.underlying9, henc]
    have HE1 : Hid _ := hcv
    have HE2 : Hid _ := hesz
    have HE3 : Hid _ := hixS
    have HE4 : Hid _ := hixE
    have HE5 : Hid _ := hsl
    have HE6 : Hid _ := hne
    have HE7 : Hid _ := hsz
    have HE8 : Hid _ := hn3
    clear hel hel2 hval hsl hixS hixE hne hsz he hesz henc hv hc128 hx128 hn3 hcv
    go_wp2_with fail
    refine Calls.mono (HV.out _) ?_
    rintro e w2 ⟨rfl, h2w⟩
    subst w2
    have hcv := HE1.out
    have hesz := HE2.out
    have hsz := HE7.out
    have hn3 := HE8.out
    go_wp2
    go_step3
    go_wp2
    refine wp_loop_rounds 1 ?_
    rw [rounds_succ]
    go_wp2
    have hixS := HE3.out
    have hixE := HE4.out
    have hne := HE6.out
    go_step3
    go_wp2
    go_quiet (fail)
    go_wp2
    have hsl := HE5.out
    have hw1 : IntKind.i64.wrap ((n : Int) + 1) = (n : Int) + 1 := by rw [IntKind.wrap_i64]; omega
    have HBq : Hid (Below w.heap.size w (w.drewN nq)) := Below.drewN (Below.refl _ _) _
    generalize w.drewN nq = w5 at *
    go_quiet (with_reducible exact Calls.quiet_of_same (HIB.out _))
    go_wp2
    rw [Exit.noGoto_ret]
    go_wp2
    rw [Exit.noGoto_ret]
    go_wp2
    go_ret
    exact ⟨rfl, Below.drewN HBq.out _⟩

theorem containsRune_any (r : Nat) (w : World) (hv : TxtMath.valid r = true) :
    Calls Tryz.prog 79 #[.string ⟨#[33, 36, 38, 39, 40, 41, 42, 43, 44, 59, 61, 58, 64, 47, 63]⟩, .int .i32 (r : Int)] w fun e w' => e = .returned (.bool (extra true r)) ∧ Below w.heap.size w w' := by
  by_cases h : r < 128
  · refine (strings_ContainsRune_ascii _ (r : Int) w (by omega) (by omega)).mono ?_
    rintro e w' ⟨rfl, rfl⟩
    refine ⟨ret_bool ?_, Below.refl _ _⟩
    have := signsQ_ascii ⟨r, h⟩
    rw [Int.toNat_natCast]
    exact this
  · have HI : Hid _ := indexRune_high r w hv (by omega)
    rw [extra_high r (by omega)]
    go_enter Tryz.func79, Tryz.ntmps79
    go_wp2_with (go_at_call 100; refine Calls.mono HI.out ?_; rintro e w2 ⟨rfl, hb2⟩; have HB : Hid _ := hb2; clear hb2)
    go_ret
    exact ⟨rfl, HB.out⟩
end Go.Proofs.YteockpllnhjooaaGreatDoor
namespace Go.Proofs.YteockpllnhjooaaGreatDoor
open Go.RowKit NumMath
open AddrMath (pre post is No Ends cut3 colon splitD lower small labC isLab isHost isPort digit value hexV hexAt hexD escape meant plain extra way)
set_option maxRecDepth 100000
set_option linter.unusedVariables false
set_option linter.unusedSimpArgs false

/-- What runesForm answers. -/
def wayV (l : List Nat) : Value := match way true l with | some f => .tuple #[.string (strN f), .bool true] | none => .tuple #[.string (strN []), .bool false]
theorem wayV_some {l f : List Nat} (h : way true l = some f) : wayV l = .tuple #[.string (strN f), .bool true] := by unfold wayV; rw [h]
theorem wayV_none {l : List Nat} (h : way true l = none) : wayV l = .tuple #[.string (strN []), .bool false] := by unfold wayV; rw [h]
theorem map_app (o : Option (List Nat)) (x acc : List Nat) : (o.map (x ++ ·)).map (acc ++ ·) = o.map ((acc ++ x) ++ ·) := by
  cases o with
  | none => rfl
  | some y => simp
theorem drop_cons {l : List Nat} {k c : Nat} (h : l[k]? = some c) : l.drop k = c :: l.drop (k + 1) := by
  obtain ⟨h1, h2⟩ := List.getElem?_eq_some_iff.1 h
  rw [← h2]; exact List.drop_eq_getElem_cons h1
theorem way_at_pct {l : List Nat} {k : Nat} (h : l[k]? = some 37) : way true (l.drop k) = match hexAt (l.drop (k + 1)) with | some v => (way true (l.drop (k + 3))).map (meant v ++ ·) | none => none := by
  rw [drop_cons h, AddrMath.way_pct, List.drop_drop]
  rfl
theorem way_at_low {l : List Nat} {k c : Nat} (h : l[k]? = some c) (h1 : c ≠ 37) (h2 : c < 128) : way true (l.drop k) = if plain c || extra true c then (way true (l.drop (k + 1))).map ([c] ++ ·) else none := by
  rw [drop_cons h, AddrMath.way_low _ h1 h2]; rfl
theorem way_at_high {l : List Nat} {k c r n : Nat} (h : l[k]? = some c) (h2 : 128 ≤ c) (hd : TxtMath.dec (l.drop k) = (r, n)) : way true (l.drop k) = if n = 1 then none else (way true (l.drop (k + n))).map ((TxtMath.enc r).flatMap escape ++ ·) := by
  have e := drop_cons h
  have hh := AddrMath.way_high (q := true) (l.drop (k + 1)) h2
  rw [← e, hd] at hh
  rw [hh]
  by_cases h1 : n = 1
  · rw [if_pos h1, if_pos h1]
  · rw [if_neg h1, if_neg h1]
    have := (TxtMath.dec_multi (l.drop k) (by rw [hd]; exact h1)).1
    rw [hd] at this
    simp only at this ⊢
    rw [this, List.drop_drop]
theorem hexAt_some {l : List Nat} {v : Nat} (h : hexAt l = some v) : ∃ a b t, l = a :: b :: t ∧ a < 128 ∧ b < 128 := by
  match l, h with
  | [], h => cases h
  | [_], h => cases h
  | a :: b :: t, h =>
    refine ⟨a, b, t, rfl, ?_, ?_⟩
    · have : (hexV a).isSome = true := by
        cases e : hexV a with
        | none => simp [hexAt, e] at h
        | some x => rfl
      unfold hexV at this
      repeat' split at this
      all_goals first | omega | cases this
    · have : (hexV b).isSome = true := by
        cases e : hexV b with
        | none => cases e2 : hexV a <;> simp [hexAt, e, e2] at h
        | some x => rfl
      unfold hexV at this
      repeat' split at this
      all_goals first | omega | cases this
theorem prefix_enc {l : List Nat} {k c r n : Nat} (h : l[k]? = some c) (h2 : 128 ≤ c) (hd : TxtMath.dec (l.drop k) = (r, n)) : (TxtMath.enc r).isPrefixOf (l.drop k) = decide (n ≠ 1) := by
  by_cases h1 : n = 1
  · rw [decide_eq_false (by simpa using h1)]
    apply Bool.eq_false_iff.2
    intro hp
    obtain ⟨t, ht⟩ := List.isPrefixOf_iff_prefix.1 hp
    have hv := TxtMath.dec_valid (l.drop k)
    rw [hd] at hv
    have hde := TxtMath.dec_enc r t hv
    rw [ht, hd] at hde
    have h3 := (Prod.mk.inj hde).2
    have hr := TxtMath.dec_one (l.drop k) (by rw [hd]; exact h1) (by rw [AddrMath.byteAt_drop h]; exact h2)
    rw [hd] at hr
    simp only at hr
    rw [hr, h1] at h3
    exact absurd h3 (by decide)
  · rw [decide_eq_true h1]
    have := (TxtMath.dec_multi (l.drop k) (by rw [hd]; exact h1)).1
    rw [hd] at this
    rw [List.isPrefixOf_iff_prefix, ← this]
    exact List.take_prefix _ _
theorem Own.iterAt {w : World} {base e : Nat} {v : Value} {vs : List Value} (h : Own w base e v vs) {k : Nat} (hk : k < base) (s : ByteArray) (p : Nat) : Own (w.iterAt k s p) base e v vs := by
  refine ⟨h.1, ?_⟩
  rcases h.2 with h2 | ⟨g, cap, cur, h2, h3, h4, h5⟩
  · exact .inl h2
  · refine .inr ⟨g, cap, cur, h2, h3, ?_, h5⟩
    rw [Lib.iterAt_other w k g s p (by omega)]
    exact h4
/-- Memory of a conversion is never a row that is appended to. -/
theorem Own.ne {w : World} {base e : Nat} {v : Value} {vs : List Value} (h : Own w base e v vs) {g : Nat} {C : Array Value} {t : TypeId} {fz : Nat × Nat} (hg : w.heap[g]? = some (.cells C t fz)) (hf : fz ≠ (0, 0)) : some g ≠ v.ownBlock := by
  intro e1
  rcases h.2 with ⟨h2, _⟩ | ⟨g', cap, cur, h2, h3, h4, h5⟩
  · rw [h2] at e1; cases e1
  · rw [h2] at e1
    have : g = g' := Option.some.inj e1
    subst this
    rw [hg] at h4
    have h6 := Option.some.inj h4
    injection h6 with _ _ h7
    exact hf h7
theorem cell_obj {w : World} {g j : Nat} {C : Array Value} {t : TypeId} {fz : Nat × Nat} {u : Value} (hg : w.heap[g]? = some (.cells C t fz)) (hc : C[j]? = some u) : w.cell? ⟨g, j, none⟩ = some u := by simp [World.cell?, hg, hc]
theorem Own.str {w : World} {base : Nat} {v : Value} {l : List Nat} (h : Own w base 5 v (bv l)) : (convert 48 9 v).run Tryz.prog w = .ok (.string (strN l)) w := by
  have h1 : w.ownsRow base 5 1 v (bv l).length ((ints8 l).map (Value.int .u8)) := by rw [← bv_ints]; exact h
  have := own_string h1
  rwa [strOf_ints8] at this
theorem flatMap_take_succ (E : List Nat) (j c : Nat) (h : E[j]? = some c) : (E.take (j + 1)).flatMap escape = (E.take j).flatMap escape ++ escape c := by
  obtain ⟨h1, h2⟩ := List.getElem?_eq_some_iff.1 h
  rw [List.take_succ_eq_append_getElem h1, h2]; simp
theorem escs_len (E : List Nat) : (E.flatMap escape).length = 3 * E.length := by
  induction E with
  | nil => rfl
  | cons x t ih => rw [List.flatMap_cons, List.length_append, ih]; simp [escape]; omega

set_option maxRecDepth 100000 in
set_option maxHeartbeats 8000000 in
theorem runesForm_any (l : List Nat) (w : World) (hb : ∀ c ∈ l, c < 256) (hm : l.length ≤ 100000) :
    Calls Tryz.prog 48 #[.string (strN l)] w fun e w' => e = .returned (wayV l) ∧ Below w.heap.size w w' := by
  have HI0 : Hid (Iter (w.alloc (.stringIter (strN l) 0)) w.heap.size l 0) := Iter.new _ l _ rfl
  have HB0 : Hid (Below w.heap.size w (w.alloc (.stringIter (strN l) 0))) := (Below.refl _ w).alloc (Nat.le_refl _) _
  have hsz := strN_size l
  have HBY : Hid _ := hb
  go_enter Tryz.func48, Tryz.ntmps48
  go_wp2
  obtain ⟨g0, hg0⟩ : ∃ g0, g0 = w.heap.size := ⟨_, rfl⟩
  have hgw : w.heap.size ≤ g0 := by omega
  have HS0 : Hid (g0 < (w.alloc (.stringIter (strN l) 0)).heap.size) := by show _ < _; rw [hg0]; simp
  rw [← hg0] at HI0 ⊢
  clear hg0
  go_loopw [4, 5] (fun v nx wr => ∃ (pos q m : Nat) (acc : List Nat), nx = .int .i64 (q : Int) ∧ Iter wr g0 l pos ∧ Below w.heap.size w wr ∧ Own wr (g0 + 1) 5 v (bv acc) ∧ m ≤ l.length ∧ acc.length ≤ 3 * m ∧ pos ≤ l.length ∧ ((q ≤ pos ∧ m = pos) ∨ (pos < q ∧ m = q ∧ ∀ j c : Nat, pos ≤ j → j < q → l[j]? = some c → c < 128)) ∧ way true l = (way true (l.drop m)).map (acc ++ ·)) (fun _ _ wr => l.length - wr.iterPos g0)
  case atStart => exact ⟨0, 0, 0, [], rfl, HI0.out, HB0.out, Own.nil _ _ _, by omega, by simp, by omega, .inl ⟨by omega, rfl⟩, by simp⟩
  case round =>
    clear HI0 HB0 HS0
    obtain ⟨pos, q, m, acc, rfl, hit, hbw, hown, hml, hal, hpl, hst, hway⟩ := hrel
    have hlt := hit.lt
    have HIT : Hid _ := hit
    have HBW : Hid _ := hbw
    have HO : Hid _ := hown
    have HW : Hid _ := hway
    have hql : q ≤ l.length := by omega
    by_cases hp : pos < l.length
    · obtain ⟨r, n, hnx, hv, hr, hn, hpn, hru, hdec⟩ := next_some hit hb hp
      obtain ⟨c, hc⟩ : ∃ c, l[pos]? = some c := ⟨l[pos], List.getElem?_eq_getElem hp⟩
      have hc256 := hb c (List.mem_of_getElem? hc)
      have HC : Hid _ := hc
      have HI2 : Hid _ := hit.set (pos + n)
      have HB2 : Hid _ := Lib.below_iterAt hbw (k := g0) (by omega) (strN l) (pos + n)
      have HO2 : Hid _ := Own.iterAt hown (k := g0) (by omega) (strN l) (pos + n)
      have hs1 : g0 < (wr.iterAt g0 (strN l) (pos + n)).heap.size := by rw [Lib.iterAt_size]; exact hlt
      have HM : Hid (l.length - (pos + n) < l.length - wr.iterPos g0) := by
        show _ < _; rw [Iter.pos HIT.out]; omega
      rcases hst with ⟨hq, hmp⟩ | ⟨hq, hmq, hasc⟩
      · subst hmp
        have HD : Hid _ := hdec
        by_cases hpct : c = 37
        · -- a byte by its digits
          subst hpct
          have hd2 := AddrMath.dec_ascii hc (by decide)
          rw [hd2] at hdec
          obtain ⟨hr37, hn1⟩ := Prod.mk.inj hdec
          subst hr37
          subst hn1
          have hwp := way_at_pct hc
          have hslice : ∀ w, (Instr.sliceAt 9 (.string (strN l)) (some (.int .i64 ((m : Int) + 1))) none none).run Tryz.prog w = .ok (.string (strN (l.drop (m + 1)))) w := by
            intro w
            have := run_slice_from (w := w) l .i64 (m + 1) (by omega)
            rw [show ((m + 1 : Nat) : Int) = (m : Int) + 1 by omega] at this
            exact this
          have HX : Hid (∀ w, _) := fun w => hexByte_any (l.drop (m + 1)) w (fun c hc => HBY.out c (List.mem_of_mem_drop hc)) (by simp; omega)
          cases hh : hexAt (l.drop (m + 1)) with
          | none =>
            rw [hh] at hwp HX
            have HN : Hid (way true l = none) := by show _ = _; rw [HW.out, hwp]; rfl
            have HX2 : Hid (∀ w, Calls Tryz.prog 76 #[.string (strN (l.drop (m + 1)))] w fun e w' => (∃ v : Nat, e = .returned (.tuple #[.int .u8 (v : Int), .bool false])) ∧ w' = w) := fun w => (HX.out w).mono (fun e w' ⟨⟨v, h1, _⟩, h2⟩ => ⟨⟨v, h1⟩, h2⟩)
            clear hit hbw hown hway hru hdec hd2 hv hc hn hwp hh HX
            generalize wr.iterAt g0 (strN l) (m + 1) = w1 at *
            go_wp2_with (go_at_call 76; refine Calls.mono (HX2.out _) ?_; rintro e w2 ⟨⟨v2, rfl⟩, h2w⟩; subst w2)
            go_ret2
            rw [wayV_none HN.out]
            exact ⟨rfl, HB2.out⟩
          | some x =>
            rw [hh] at hwp HX
            obtain ⟨a, b, t, hl3, ha128, hb128⟩ := hexAt_some hh
            have hlen3 : m + 3 ≤ l.length := by have := congrArg List.length hl3; simp at this; omega
            have hl1 : l[m + 1]? = some a := by have := congrArg (fun y : List Nat => y[0]?) hl3; simpa using this
            have hl2 : l[m + 2]? = some b := by have := congrArg (fun y : List Nat => y[1]?) hl3; simpa [List.getElem?_drop] using this
            have hx256 := AddrMath.hexAt_lt hh
            have HN : Hid (way true l = (way true (l.drop (m + 3))).map ((acc ++ meant x) ++ ·)) := by show _ = _; rw [HW.out, hwp]; exact map_app _ _ _
            have HX2 : Hid (∀ w, Calls Tryz.prog 76 #[.string (strN (l.drop (m + 1)))] w fun e w' => e = .returned (.tuple #[.int .u8 (x : Int), .bool true]) ∧ w' = w) := fun w => (HX.out w).mono (fun e w' ⟨⟨v, h1, h3⟩, h2⟩ => ⟨by rw [← h3 x rfl]; exact h1, h2⟩)
            have HAs : Hid (∀ j c : Nat, m + 1 ≤ j → j < m + 3 → l[j]? = some c → c < 128) := by
              intro j c h1 h2 h3
              rcases (by omega : j = m + 1 ∨ j = m + 2) with rfl | rfl
              · rw [hl1] at h3; cases h3; exact ha128
              · rw [hl2] at h3; cases h3; exact hb128
            have hml2 : (meant x).length ≤ 3 := by unfold meant; split <;> simp [escape]
            clear hit hbw hown hway hru hdec hd2 hv hc hn hwp hh HX hl1 hl2 hl3
            generalize wr.iterAt g0 (strN l) (m + 1) = w1 at *
            have HAp : Hid _ := appendMeant_any (g0 + 1) _ acc x w1 HO2.out hx256 (by omega) (by omega)
            go_wp2_with (first | (go_at_call 76; refine Calls.mono (HX2.out _) ?_; rintro e w2 ⟨rfl, h2w⟩; subst w2) | (go_at_call 77; refine Calls.mono HAp.out ?_; rintro e w3 ⟨v3, rfl, hown3, hb3⟩; have HO3 : Hid _ := hown3; have HB3 : Hid _ := hb3; clear hown3 hb3))
            go_roundw
            case rel => exact ⟨m + 1, m + 3, m + 3, acc ++ meant x, by simp, Iter.below HI2.out HB3.out (by omega), HB2.out.trans (HB3.out.mono (by omega)), HO3.out, hlen3, by rw [List.length_append]; omega, by omega, .inr ⟨by omega, rfl, HAs.out⟩, HN.out⟩
            case measure => rw [Iter.pos (Iter.below HI2.out HB3.out (by omega))]; exact HM.out
        · by_cases hc128 : c < 128
          · -- a byte as it stands
            have hd2 := AddrMath.dec_ascii hc hc128
            rw [hd2] at hdec
            obtain ⟨hrc, hn1⟩ := Prod.mk.inj hdec
            subst hrc
            subst hn1
            have hwl := way_at_low hc hpct hc128
            have hne : ((c : Int) == 37) = false := by simp; omega
            have HNE : Hid _ := hpct
            have HFr : Hid (∀ w, _) := fun w => isFree_any c w hr
            have HCo : Hid (∀ w, _) := fun w => containsRune_any c w hv
            cases hpl2 : plain c with
            | true =>
              rw [hpl2] at HFr hwl
              have HN : Hid (way true l = (way true (l.drop (m + 1))).map ((acc ++ [c]) ++ ·)) := by show _ = _; rw [HW.out, hwl]; exact map_app _ _ _
              clear hit hbw hown hway hru hdec hd2 hv hc hn hwl hpct
              generalize wr.iterAt g0 (strN l) (m + 1) = w1 at *
              go_wp2_with (first | (go_at_call 78; refine Calls.mono (HFr.out _) ?_; rintro e w2 ⟨rfl, h2w⟩; subst w2) | (at_builtin; refine wpList_app_u8 rfl _ _ rfl (g0 + 1) _ (bv acc) (.int .u8 (c : Int)) rfl (Own.alloc HO2.out _) _ rfl (by simp) rfl (by rw [bv_len]; omega) (by simp; omega) ?_; intro v2 w2 hown2 hgrow2))
              have HO3 : Hid (Own w2 (g0 + 1) 5 v2 (bv (acc ++ [c]))) := by show Own _ _ _ _ _; rw [bv_app]; exact hown2
              have HB3 : Hid (Below (g0 + 1) w1 w2) := ((Below.refl (g0 + 1) w1).alloc (by omega) _).grown hgrow2 (by simp; omega) (fun k hk => (World.ownsRow.lt HO2.out k hk).1)
              clear hown2 hgrow2
              go_roundw
              case rel => exact ⟨m + 1, q, m + 1, acc ++ [c], rfl, Iter.below HI2.out HB3.out (by omega), HB2.out.trans (HB3.out.mono (by omega)), HO3.out, by omega, by rw [List.length_append]; simp; omega, by omega, .inl ⟨by omega, rfl⟩, HN.out⟩
              case measure => rw [Iter.pos (Iter.below HI2.out HB3.out (by omega))]; exact HM.out
            | false =>
              rw [hpl2] at HFr hwl
              cases hex : extra true c with
              | true =>
                rw [hex] at HCo hwl
                have HN : Hid (way true l = (way true (l.drop (m + 1))).map ((acc ++ [c]) ++ ·)) := by show _ = _; rw [HW.out, hwl]; exact map_app _ _ _
                clear hit hbw hown hway hru hdec hd2 hv hc hn hwl hpct
                generalize wr.iterAt g0 (strN l) (m + 1) = w1 at *
                go_wp2_with (first | (go_at_call 78; refine Calls.mono (HFr.out _) ?_; rintro e w2 ⟨rfl, h2w⟩; subst w2) | (go_at_call 79; refine Calls.mono (HCo.out _) ?_; rintro e w5 ⟨rfl, hb5⟩; have HI5 : Hid _ := Iter.below HI2.out hb5 (by omega); have HB5 : Hid _ := HB2.out.trans (hb5.mono (by omega)); have HO5 : Hid _ := Own.later HO2.out hb5; have hs5 := Iter.lt HI5.out; clear hb5) | (at_builtin; refine wpList_app_u8 rfl _ _ rfl (g0 + 1) _ (bv acc) (.int .u8 (c : Int)) rfl (Own.alloc HO5.out _) _ rfl (by simp) rfl (by rw [bv_len]; omega) (by simp; omega) ?_; intro v2 w2 hown2 hgrow2))
                have HO3 : Hid (Own w2 (g0 + 1) 5 v2 (bv (acc ++ [c]))) := by show Own _ _ _ _ _; rw [bv_app]; exact hown2
                have HB3 : Hid (Below (g0 + 1) w5 w2) := ((Below.refl (g0 + 1) w5).alloc (by omega) _).grown hgrow2 (by simp; omega) (fun k hk => (World.ownsRow.lt HO5.out k hk).1)
                clear hown2 hgrow2
                go_roundw
                case rel => exact ⟨m + 1, q, m + 1, acc ++ [c], rfl, Iter.below HI5.out HB3.out (by omega), HB5.out.trans (HB3.out.mono (by omega)), HO3.out, by omega, by rw [List.length_append]; simp; omega, by omega, .inl ⟨by omega, rfl⟩, HN.out⟩
                case measure => rw [Iter.pos (Iter.below HI5.out HB3.out (by omega))]; exact HM.out
              | false =>
                rw [hex] at HCo hwl
                have HN : Hid (way true l = none) := by show _ = _; rw [HW.out, hwl]; rfl
                clear hit hbw hown hway hru hdec hd2 hv hc hn hwl hpct
                generalize wr.iterAt g0 (strN l) (m + 1) = w1 at *
                go_wp2_with (first | (go_at_call 78; refine Calls.mono (HFr.out _) ?_; rintro e w2 ⟨rfl, h2w⟩; subst w2) | (go_at_call 79; refine Calls.mono (HCo.out _) ?_; rintro e w5 ⟨rfl, hb5⟩; have HB5 : Hid _ := HB2.out.trans (hb5.mono (by omega)); clear hb5))
                go_ret2
                rw [wayV_none HN.out]
                exact ⟨rfl, HB5.out⟩
          · -- a rune of more bytes, or none
            have hr128 := AddrMath.dec_big hc (by omega)
            rw [hdec] at hr128
            simp only at hr128
            have hwh := way_at_high hc (by omega) hdec
            have hpx := prefix_enc hc (by omega) hdec
            have hne : ((r : Int) == 37) = false := by simp; omega
            have hne2 : ¬ ((r : Int) = 37) := by omega
            have HFr : Hid (∀ w, Calls Tryz.prog 78 #[.int .i32 (r : Int)] w fun e w' => e = .returned (.bool false) ∧ w' = w) := by
              intro w
              have := isFree_any r w hr
              have e : plain r = false := by simp [plain]; omega
              rw [e] at this
              exact this
            have HCo : Hid (∀ w, Calls Tryz.prog 79 #[.string ⟨#[33, 36, 38, 39, 40, 41, 42, 43, 44, 59, 61, 58, 64, 47, 63]⟩, .int .i32 (r : Int)] w fun e w' => e = .returned (.bool false) ∧ Below w.heap.size w w') := by
              intro w
              have := containsRune_any r w hv
              rw [extra_high r hr128] at this
              exact this
            have hcv : ∀ w, (convert 21 9 (.int .i32 (r : Int))).run Tryz.prog w = .ok (.string (strN (TxtMath.enc r))) w := by
              intro w
              rw [run_convert_int_string w 21 9 .i32 (r : Int) (by rw [Tryz.underlying21]; rfl) Tryz.underlying9, encode_strN r hv]
            have hslice : ∀ w, (Instr.sliceAt 9 (.string (strN l)) (some (.int .i64 (m : Int))) none none).run Tryz.prog w = .ok (.string (strN (l.drop m))) w := fun w => run_slice_from (w := w) l .i64 m (by omega)
            have heg := TxtMath.enc_ge r hr128 hr
            have HPx : Hid (∀ w, Calls Tryz.prog 80 #[.string (strN (l.drop m)), .string (strN (TxtMath.enc r))] w fun e w' => e = .returned (.bool (decide (n ≠ 1))) ∧ w' = w) := by
              intro w
              have := hasPrefix_any (l.drop m) (TxtMath.enc r) (fun c hc => HBY.out c (List.mem_of_mem_drop hc)) (fun c hc => (heg c hc).2) w
              rw [hpx] at this
              exact this
            have hEl := TxtMath.enc_len r
            have hEn0 : n ≠ 1 → (TxtMath.enc r).length = n := by
              intro h1
              have h2 := (TxtMath.dec_multi (l.drop m) (by rw [hdec]; exact h1)).1
              rw [hdec] at h2
              simp only at h2
              rw [← h2, List.length_take, List.length_drop]
              omega
            generalize TxtMath.enc r = E at *
            have hEsz := strN_size E
            clear hpx
            by_cases hn1 : n = 1
            · rw [if_pos hn1] at hwh
              rw [decide_eq_false (by simpa using hn1)] at HPx
              have HN : Hid (way true l = none) := by show _ = _; rw [HW.out, hwh]; rfl
              clear hit hbw hown hway hru hdec hv hc hn hwh hpct heg
              clear hn1
              generalize wr.iterAt g0 (strN l) (m + n) = w1 at *
              go_wp2_with (first | (go_at_call 78; refine Calls.mono (HFr.out _) ?_; rintro e w2 ⟨rfl, h2w⟩; subst w2) | (go_at_call 79; refine Calls.mono (HCo.out _) ?_; rintro e w5 ⟨rfl, hb5⟩; have HB5 : Hid _ := HB2.out.trans (hb5.mono (by omega)); clear hb5) | (go_at_call 80; refine Calls.mono (HPx.out _) ?_; rintro e w2 ⟨rfl, h2w⟩; subst w2))
              go_ret2
              rw [wayV_none HN.out]
              exact ⟨rfl, HB5.out⟩
            · rw [if_neg hn1] at hwh
              rw [decide_eq_true hn1] at HPx
              have hEn : E.length = n := hEn0 hn1
              have HN : Hid (way true l = (way true (l.drop (m + n))).map ((acc ++ E.flatMap escape) ++ ·)) := by show _ = _; rw [HW.out, hwh]; exact map_app _ _ _
              have HEG : Hid _ := heg
              clear hit hbw hown hway hru hdec hv hc hn hwh hpct heg hn1
              generalize wr.iterAt g0 (strN l) (m + n) = w1 at *
              go_wp2_with (first | (go_at_call 78; refine Calls.mono (HFr.out _) ?_; rintro e w2 ⟨rfl, h2w⟩; subst w2) | (go_at_call 79; refine Calls.mono (HCo.out _) ?_; rintro e w5 ⟨rfl, hb5⟩; have HI5 : Hid _ := Iter.below HI2.out hb5 (by omega); have HB5 : Hid _ := HB2.out.trans (hb5.mono (by omega)); have HO5 : Hid _ := Own.later HO2.out hb5; have hs5 := Iter.lt HI5.out; clear hb5) | (go_at_call 80; refine Calls.mono (HPx.out _) ?_; rintro e w2 ⟨rfl, h2w⟩; subst w2))
              have hBf := Buf.new w5 E (fun c hc => (HEG.out c hc).2)
              have HG : Hid ((Lib.bytesWorld w5 5 (strN E)).heap[w5.heap.size]? = some (.cells (Lib.bytesCells w5 5 (strN E)) 5 ((Lib.bytesCells w5 5 (strN E)).size, (Lib.bytesCells w5 5 (strN E)).size + 1))) := Lib.bytesWorld_at_new w5 5 (strN E)
              have HCj : Hid (∀ j c : Nat, E[j]? = some c → (Lib.bytesCells w5 5 (strN E))[j]? = some (.int .u8 (c : Int))) := by
                intro j c h
                have := hBf.1 j c h
                simpa [World.cell?, HG.out] using this
              have HB6 : Hid (Below (g0 + 1) w5 (Lib.bytesWorld w5 5 (strN E))) := (bytes_below w5 E).mono (by omega)
              have HO6 : Hid _ := Own.later HO5.out (bytes_below w5 E)
              have hs6 : w5.heap.size < (Lib.bytesWorld w5 5 (strN E)).heap.size := by rw [Lib.bytesWorld_size]; omega
              rw [conv_bytes w5 E]
              simp only [Result.andThen]
              rw [Oper.upon_value]
              clear hBf
              generalize grownCap w5 E.length 0 5 = cap
              generalize Lib.bytesCells w5 5 (strN E) = C at *
              obtain ⟨fz, hfz⟩ : ∃ fz : Nat × Nat, fz = (C.size, C.size + 1) := ⟨_, rfl⟩
              have HFZ : Hid (fz ≠ (0, 0)) := by rw [hfz]; intro e; injection e; omega
              rw [← hfz] at HG
              clear hfz
              generalize Lib.bytesWorld w5 5 (strN E) = w6 at *
              obtain ⟨g, hg⟩ : ∃ g, g = w5.heap.size := ⟨_, rfl⟩
              rw [← hg] at HG hs6 ⊢
              have hgg : g0 + 1 ≤ g := by omega
              clear hg
              rw [hEn]
              have HEn : Hid _ := hEn
              have hn4 : n ≤ 4 := by rw [← hEn]; exact hEl.2
              clear hEn hEsz hEn0
              go_wp2
              go_loopw [4, 67] (fun v i wr2 => ∃ j : Nat, j ≤ n ∧ i = .int .i64 (j : Int) ∧ Own wr2 (g0 + 1) 5 v (bv (acc ++ (E.take j).flatMap escape)) ∧ wr2.heap[g]? = some (.cells C 5 fz) ∧ Below (g0 + 1) w5 wr2) (fun _ i _ => n - (intOf i).toNat)
              case atStart => exact ⟨0, by omega, rfl, (by rw [show acc ++ (E.take 0).flatMap escape = acc by simp]; exact HO6.out), HG.out, HB6.out⟩
              case round =>
                clear HG HO6 HB6 hs6
                obtain ⟨j, hj, rfl, hown7, hg7, hb7⟩ := hrel
                have HO7 : Hid _ := hown7
                have HG7 : Hid _ := hg7
                have HB7 : Hid _ := hb7
                have hg7l : g < wr.heap.size := (Array.getElem?_eq_some_iff.1 hg7).1
                clear hown7 hb7
                by_cases hjn : j < n
                · obtain ⟨d, hd⟩ : ∃ d, E[j]? = some d := ⟨E[j]'(by rw [HEn.out]; exact hjn), List.getElem?_eq_getElem _⟩
                  have hcell : wr.cell? ⟨g, j, none⟩ = some (.int .u8 (d : Int)) := cell_obj hg7 (HCj.out j d hd)
                  have hd256 := (HEG.out d (List.mem_of_getElem? hd)).2
                  have HF : Hid _ := flatMap_take_succ E j d hd
                  have hlen : (acc ++ (E.take j).flatMap escape).length ≤ 3 * m + 12 := by
                    rw [List.length_append, escs_len, List.length_take, HEn.out]; omega
                  have HAp : Hid _ := appendHex_any (g0 + 1) _ _ d wr HO7.out hd256 (by omega) (by omega)
                  have HNE : Hid _ := Own.ne HO7.out hg7 HFZ.out
                  clear hg7 hd
                  go_wp2_with (go_at_call 81; refine Calls.mono HAp.out ?_; rintro e w8 ⟨v8, rfl, hown8, hb8, hoth8⟩; have HO8 : Hid _ := hown8; have HB8 : Hid _ := hb8; have HG8 : Hid _ := (hoth8 g hg7l HNE.out).trans HG7.out; clear hown8 hb8 hoth8)
                  go_roundw
                  case rel => exact ⟨j + 1, by omega, by simp, by rw [HF.out, ← List.append_assoc]; exact HO8.out, HG8.out, HB7.out.trans HB8.out⟩
                  case measure => simp [intOf]; omega
                · have e : j = n := by omega
                  subst e
                  have HTE : Hid (E.take j = E) := List.take_of_length_le (by rw [HEn.out]; omega)
                  have HO8 : Hid _ := HO7.out
                  rw [HTE.out] at HO8
                  have hlen : (acc ++ E.flatMap escape).length ≤ 3 * (m + j) := by
                    rw [List.length_append, escs_len, HEn.out]; omega
                  have HI8 : Hid _ := Iter.below HI5.out HB7.out (by omega)
                  clear hg7
                  go_wp2
                  go_roundw
                  case rel => exact ⟨m + j, q, m + j, acc ++ E.flatMap escape, rfl, HI8.out, HB5.out.trans (HB7.out.mono (by omega)), HO8.out, by omega, hlen, by omega, .inl ⟨by omega, rfl⟩, HN.out⟩
                  case measure => rw [Iter.pos HI8.out]; exact HM.out
      · -- a digit behind a %
        have hc128 := hasc pos c (by omega) hq hc
        have hd2 := AddrMath.dec_ascii hc hc128
        rw [hd2] at hdec
        obtain ⟨hrc, hn1⟩ := Prod.mk.inj hdec
        subst hrc
        subst hn1
        have HAs : Hid (∀ j c : Nat, pos + 1 ≤ j → j < q → l[j]? = some c → c < 128) := fun j c h1 h2 h3 => hasc j c (by omega) h2 h3
        have hqm : q ≤ l.length := by omega
        have HMQ : Hid _ := hmq
        clear hit hbw hown hway hru hdec hd2 hv hc hn hasc hmq
        generalize wr.iterAt g0 (strN l) (pos + 1) = w1 at *
        go_wp2
        go_roundw
        case rel =>
          refine ⟨pos + 1, q, m, acc, rfl, HI2.out, HB2.out, HO2.out, hml, hal, by omega, ?_, HW.out⟩
          have hmq := HMQ.out
          by_cases h : pos + 1 < q
          · exact .inr ⟨h, hmq, HAs.out⟩
          · exact .inl ⟨by omega, by omega⟩
        case measure => rw [Iter.pos HI2.out]; exact HM.out
    · have hnx := next_none (l := l) hit hp
      have hmm : m = l.length := by omega
      have HF : Hid (way true l = some acc) := by
        show _ = _
        rw [HW.out, hmm, List.drop_eq_nil_of_le (Nat.le_refl _)]
        show some (acc ++ []) = _
        rw [List.append_nil]
      have hst2 := Own.str hown
      clear hit hbw hown hway hst hmm
      go_wp2
      go_ret2
      rw [wayV_some HF.out]
      exact ⟨rfl, HBW.out⟩
end Go.Proofs.YteockpllnhjooaaGreatDoor

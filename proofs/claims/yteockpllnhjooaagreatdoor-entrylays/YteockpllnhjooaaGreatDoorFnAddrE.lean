/-
  strings.ContainsRune over the signs that a path or a query may have, at every rune; string(r).
-/
import Derived.Test.YteockpllnhjooaaGreatDoorFnAddrD
import Derived.Laws.Runes
import Derived.Deep.QuietTactic
import Derived.WalkMore
namespace Go.Proofs.YteockpllnhjooaaGreatDoor
open Go.RowKit NumMath
open AddrMath (pre post is No Ends cut3 colon splitD lower small labC isLab isHost isPort digit value hexV hexAt hexD escape meant plain extra)
set_option maxRecDepth 100000
set_option linter.unusedVariables false
set_option linter.unusedSimpArgs false

/-- A rune as a string. -/
theorem encode_strN (r : Nat) (h : TxtMath.valid r = true) : Utf8.encode (r : Int) = strN (TxtMath.enc r) := by
  have hv : Utf8.valid (r : Int) = true := by
    have : r < 55296 ∨ (57344 ≤ r ∧ r ≤ 1114111) := by simpa [TxtMath.valid] using h
    unfold Utf8.valid
    simp
    omega
  unfold Utf8.encode TxtMath.enc
  simp only [hv, if_true, Int.toNat_natCast]
  split
  · rfl
  · split
    · rfl
    · split
      · rfl
      · rfl
theorem run_slice_from {w : World} (l : List Nat) (k1 : IntKind) (i : Nat) (h1 : i ≤ l.length) :
    (Instr.sliceAt 9 (.string (strN l)) (some (.int k1 (i : Int))) none none).run Tryz.prog w = .ok (.string (strN (l.drop i))) w := by
  rw [run_sliceAt_string w 9 _ _ _ _ Tryz.underlying9]
  have e : strN (l.drop i) = (strN l).extract i l.length := by rw [strN_extract]; rw [List.take_of_length_le (by simp)]
  rw [e]
  simp [Instr.slice, run_underlying Tryz.underlying9, Instr.sliceBounds, run_sliceBound, strN_size, h1]
def signsQ : List Nat := [33, 36, 38, 39, 40, 41, 42, 43, 44, 59, 61, 58, 64, 47, 63]
theorem signsQ_lt : ∀ c ∈ signsQ, c < 128 := by decide
theorem signsQ_ascii : ∀ r : Fin 128, decide (0 ≤ Lib.indexByte [33, 36, 38, 39, 40, 41, 42, 43, 44, 59, 61, 58, 64, 47, 63] (r.val.toUInt8)) = extra true r.val := by decide +kernel
theorem extra_high (r : Nat) (h : 128 ≤ r) : extra true r = false := by
  cases e : extra true r with
  | false => rfl
  | true => have := (AddrMath.ok_lt (q := true) (b := r) (by simp [e])).1; omega
theorem indexByte_no : ∀ (l : List Nat) (c : Nat), c < 256 → 128 ≤ c → (∀ x ∈ l, x < 128) → Lib.indexByte (l.map fun n => UInt8.ofNat n) (UInt8.ofNat c) = -1
  | [], c, _, _, _ => rfl
  | x :: t, c, h1, h2, h => by
    have hx := h x (by simp)
    have ih := indexByte_no t c h1 h2 (fun y hy => h y (by simp [hy]))
    show (if (UInt8.ofNat x == UInt8.ofNat c) = true then (0 : Int) else if Lib.indexByte (t.map fun n => UInt8.ofNat n) (UInt8.ofNat c) == -1 then -1 else _) = -1
    rw [ofNat_eq (by omega) h1, if_neg (by simp; omega), ih]
    rfl

set_option maxRecDepth 100000 in
set_option maxHeartbeats 4000000 in
theorem indexRune_high (r : Nat) (w : World) (hv : TxtMath.valid r = true) (h128 : 128 ≤ r) :
    Calls Tryz.prog 100 #[.string ⟨#[33, 36, 38, 39, 40, 41, 42, 43, 44, 59, 61, 58, 64, 47, 63]⟩, .int .i32 (r : Int)] w fun e w' => e = .returned (.int .i64 (-1)) ∧ Below w.heap.size w w' := by
  have hr := TxtMath.valid_le hv
  have hS : (⟨#[33, 36, 38, 39, 40, 41, 42, 43, 44, 59, 61, 58, 64, 47, 63]⟩ : ByteArray) = strN signsQ := rfl
  rw [hS]
  have hsz : (strN signsQ).size = 15 := strN_size _
  have HLt : Hid (∀ c ∈ signsQ, c < 128) := signsQ_lt
  have HLn : Hid (signsQ.length = 15) := rfl
  clear hS
  generalize signsQ = S at *
  by_cases he : r = 65533
  · subst he
    have HI0 : Hid (Iter (w.alloc (.stringIter (strN S) 0)) w.heap.size S 0) := Iter.new _ S _ rfl
    have HB0 : Hid (Below w.heap.size w (w.alloc (.stringIter (strN S) 0))) := (Below.refl _ w).alloc (Nat.le_refl _) _
    go_enter Tryz.func100, Tryz.ntmps100
    go_wp2
    go_loopw [] (fun wr => ∃ k : Nat, Iter wr w.heap.size S k ∧ Below w.heap.size w wr) (fun wr => S.length - wr.iterPos w.heap.size)
    case atStart => exact ⟨0, HI0.out, HB0.out⟩
    case round =>
      clear HI0 HB0
      obtain ⟨k, hit, hbw⟩ := hrel
      have hlt := hit.lt
      have HIT : Hid _ := hit
      have HBW : Hid _ := hbw
      by_cases hp : k < S.length
      · obtain ⟨x, n, hnx, hv, hr, hn, hpn, hru, hdec⟩ := next_some hit (fun c hc => by have := HLt.out c hc; omega) hp
        obtain ⟨c, hc⟩ : ∃ c, S[k]? = some c := ⟨S[k], List.getElem?_eq_getElem hp⟩
        have hc128 := HLt.out c (List.mem_of_getElem? hc)
        have hd2 := AddrMath.dec_ascii hc hc128
        rw [hd2] at hdec
        obtain ⟨rfl, rfl⟩ := Prod.mk.inj hdec
        have HI2 : Hid _ := hit.set (k + 1)
        have HB2 : Hid _ := Lib.below_iterAt hbw (k := w.heap.size) (by omega) (strN S) (k + 1)
        have HM : Hid (S.length - (k + 1) < S.length - wr.iterPos w.heap.size) := by
          show _ < _; rw [Iter.pos HIT.out]; omega
        have hne : ((c : Int) == 65533) = false := by simp; omega
        clear hit hbw hru hdec hd2 hv hc hn
        generalize wr.iterAt w.heap.size (strN S) (k + 1) = w1 at *
        go_wp2
        go_roundw
        case rel => exact ⟨k + 1, HI2.out, HB2.out⟩
        case measure => rw [Iter.pos HI2.out]; exact HM.out
      · have hnx := next_none (l := S) hit hp
        clear hit hbw
        go_wp2
        go_ret
        exact ⟨rfl, HBW.out⟩
  · have henc := encode_strN r hv
    have hel := TxtMath.enc_len r
    have heg := TxtMath.enc_ge r h128 hr
    have hel2 : 2 ≤ (TxtMath.enc r).length := by
      unfold TxtMath.enc; rw [if_neg (by omega)]
      repeat' split
      all_goals simp
    have hval : Utf8.valid (r : Int) = true := by
      have : r < 55296 ∨ (57344 ≤ r ∧ r ≤ 1114111) := by simpa [TxtMath.valid] using hv
      unfold Utf8.valid
      simp
      omega
    generalize TxtMath.enc r = E at *
    obtain ⟨n, hn⟩ : ∃ n, n + 1 = E.length := ⟨E.length - 1, by omega⟩
    have hesz : (strN E).size = n + 1 := by rw [strN_size, hn]
    obtain ⟨c, hc⟩ : ∃ c, E[n]? = some c := ⟨E[n], List.getElem?_eq_getElem (by omega)⟩
    have hc128 := heg c (List.mem_of_getElem? hc)
    have hn3 : 1 ≤ n ∧ n ≤ 3 := by omega
    obtain ⟨x, hx⟩ : ∃ x, S[n]? = some x := ⟨S[n]'(by rw [HLn.out]; omega), List.getElem?_eq_getElem _⟩
    have hx128 := HLt.out x (List.mem_of_getElem? hx)
    have hixS : ∀ w, (Instr.index 9 (.string (strN S)) (.int .i64 (n : Int))).run Tryz.prog w = .ok (.int .u8 (x : Int)) w := by
      intro w
      have := index_strN S (fun c hc => by have := HLt.out c hc; omega) n (by rw [HLn.out]; omega) .i64 w
      rw [hx] at this; exact this
    have hixE : ∀ w, (Instr.index 9 (.string (strN E)) (.int .i64 (n : Int))).run Tryz.prog w = .ok (.int .u8 (c : Int)) w := by
      intro w
      have := index_strN E (fun d hd => (heg d hd).2) n (by omega) .i64 w
      rw [hc] at this; exact this
    have hsl : ∀ w, (Instr.sliceAt 9 (.string (strN S)) (some (.int .i64 ((n : Int) + 1))) none none).run Tryz.prog w = .ok (.string (strN (S.drop (n + 1)))) w := by
      intro w
      have := run_slice_from (w := w) S .i64 (n + 1) (by rw [HLn.out]; omega)
      rw [show ((n + 1 : Nat) : Int) = (n : Int) + 1 by omega] at this
      exact this
    have HIB : Hid (∀ w, Calls Tryz.prog 113 #[.string (strN (S.drop (n + 1))), .int .u8 (c : Int)] w fun e w' => e = .returned (.int .i64 (-1)) ∧ w' = w) := by
      intro w
      refine (strings_IndexByte (strN (S.drop (n + 1))) (c : Int) w).mono ?_
      rintro e w' ⟨rfl, rfl⟩
      refine ⟨?_, rfl⟩
      rw [strN_data]
      have := indexByte_no (S.drop (n + 1)) c hc128.2 hc128.1 (fun y hy => HLt.out y (List.mem_of_mem_drop hy))
      rw [show (c : Int).toNat.toUInt8 = UInt8.ofNat c by simp [Nat.toUInt8], this]
    have hne : ((x : Int) != (c : Int)) = true := by simp; omega
    have HV : Hid (∀ w, Calls Tryz.prog 114 #[.int .i32 (r : Int)] w fun e w' => e = .returned (.bool true) ∧ w' = w) := by
      intro w
      refine (utf8_ValidRune (r : Int) w).mono ?_
      rintro e w' ⟨rfl, rfl⟩
      refine ⟨ret_bool ?_, rfl⟩
      have : r < 55296 ∨ (57344 ≤ r ∧ r ≤ 1114111) := by simpa [TxtMath.valid] using hv
      unfold Lib.validRune
      apply decide_eq_true
      omega
    clear heg hc hx hn
    go_enter Tryz.func100, Tryz.ntmps100
    have he1 : ((r : Int) == 65533) = false := by simp; omega
    have he2 : ¬ ((r : Int) = 65533) := by omega
    have hcv : ∀ w, (convert 21 9 (.int .i32 (r : Int))).run Tryz.prog w = .ok (.string (strN E)) w := by
      intro w
      rw [run_convert_int_string w 21 9 .i32 (r : Int) (by rw [Tryz.underlying21]; rfl) Tryz.underlying9, henc]
    have HE1 : Hid _ := hcv
    have HE2 : Hid _ := hesz
    have HE3 : Hid _ := hixS
    have HE4 : Hid _ := hixE
    have HE5 : Hid _ := hsl
    have HE6 : Hid _ := hne
    have HE7 : Hid _ := hsz
    have HE8 : Hid _ := hn3
    clear hel hel2 hval hsl hixS hixE hne hsz he hesz henc hv hc128 hx128 hn3 hcv
    go_wp2_with fail
    refine Calls.mono (HV.out _) ?_
    rintro e w2 ⟨rfl, h2w⟩
    subst w2
    have hcv := HE1.out
    have hesz := HE2.out
    have hsz := HE7.out
    have hn3 := HE8.out
    go_wp2
    go_step3
    go_wp2
    refine wp_loop_rounds 1 ?_
    rw [rounds_succ]
    go_wp2
    have hixS := HE3.out
    have hixE := HE4.out
    have hne := HE6.out
    go_step3
    go_wp2
    go_quiet (fail)
    go_wp2
    have hsl := HE5.out
    have hw1 : IntKind.i64.wrap ((n : Int) + 1) = (n : Int) + 1 := by rw [IntKind.wrap_i64]; omega
    have HBq : Hid (Below w.heap.size w (w.drewN nq)) := Below.drewN (Below.refl _ _) _
    generalize w.drewN nq = w5 at *
    go_quiet (with_reducible exact Calls.quiet_of_same (HIB.out _))
    go_wp2
    rw [Exit.noGoto_ret]
    go_wp2
    rw [Exit.noGoto_ret]
    go_wp2
    go_ret
    exact ⟨rfl, Below.drewN HBq.out _⟩

theorem containsRune_any (r : Nat) (w : World) (hv : TxtMath.valid r = true) :
    Calls Tryz.prog 79 #[.string ⟨#[33, 36, 38, 39, 40, 41, 42, 43, 44, 59, 61, 58, 64, 47, 63]⟩, .int .i32 (r : Int)] w fun e w' => e = .returned (.bool (extra true r)) ∧ Below w.heap.size w w' := by
  by_cases h : r < 128
  · refine (strings_ContainsRune_ascii _ (r : Int) w (by omega) (by omega)).mono ?_
    rintro e w' ⟨rfl, rfl⟩
    refine ⟨ret_bool ?_, Below.refl _ _⟩
    have := signsQ_ascii ⟨r, h⟩
    rw [Int.toNat_natCast]
    exact this
  · have HI : Hid _ := indexRune_high r w hv (by omega)
    rw [extra_high r (by omega)]
    go_enter Tryz.func79, Tryz.ntmps79
    go_wp2_with (go_at_call 100; refine Calls.mono HI.out ?_; rintro e w2 ⟨rfl, hb2⟩; have HB : Hid _ := hb2; clear hb2)
    go_ret
    exact ⟨rfl, HB.out⟩
end Go.Proofs.YteockpllnhjooaaGreatDoor

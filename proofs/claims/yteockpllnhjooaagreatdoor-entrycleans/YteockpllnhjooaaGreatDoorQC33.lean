/-
  FnUtf.
-/
import Derived.Test.YteockpllnhjooaaGreatDoorQC11
import Derived.Test.YteockpllnhjooaaGreatDoorQC15
namespace Go.Proofs.YteockpllnhjooaaGreatDoor
open Go.RowKit NumMath
set_option maxRecDepth 100000
set_option linter.unusedVariables false
set_option linter.unusedSimpArgs false

/-- A literal row of bytes as a string. -/
theorem lit_str (w : World) (l : List Nat) (hl : ∀ c ∈ l, c < 256) (n : Nat) (hn : n = l.length) :
    (convert 48 9 (.slice (some ⟨w.heap.size, 0, none⟩) n n)).run Tryz.prog (w.alloc (.cells (l.map fun c : Nat => Value.int .u8 (c : Int)).toArray 5)) = .ok (.string (strN l)) (w.alloc (.cells (l.map fun c : Nat => Value.int .u8 (c : Int)).toArray 5)) := by
  have h := row_string (cap := n) (lit_row w .u8 (l.map fun c : Nat => (c : Int)) 5 w.heap.size rfl)
  rw [List.length_map, ← hn, List.map_map] at h
  have e : strOfNums (l.map fun c : Nat => (c : Int)) = strN l := by
    apply ByteArray.ext; apply Array.toList_inj.1
    rw [strOfNums_data, strN_data]
    simp
  rw [e] at h
  exact h

set_option maxRecDepth 1000000 in
set_option maxHeartbeats 2000000 in
theorem utf_any (r : Nat) (w : World) (hv : TxtMath.valid r = true) :
    Calls Tryz.prog 65 #[.int .i64 (r : Int)] w fun e w' => e = .returned (.string (strN (TxtMath.enc r))) ∧ Below w.heap.size w w' := by
  have hr := TxtMath.valid_le hv
  have HE : Hid (TxtMath.enc r = if r < 128 then [r]
    else if r < 2048 then [192 + r / 64, 128 + r % 64]
    else if r < 65536 then [224 + r / 4096, 128 + r / 64 % 64, 128 + r % 64]
    else [240 + r / 262144, 128 + r / 4096 % 64, 128 + r / 64 % 64, 128 + r % 64]) := rfl
  have HL : Hid (∀ c ∈ TxtMath.enc r, c < 256) := TxtMath.enc_lt r hr
  have HB : Hid (∀ o, Below w.heap.size w (w.alloc o)) := fun o => (Below.refl _ w).alloc (Nat.le_refl _) o
  have a1 : bits .and .i64 (r : Int) 63 = (r : Int) % 64 := by
    have := mask64 6 (by decide) r (by omega)
    rw [show ((2 : Int) ^ 6 - 1) = 63 by decide] at this
    rw [this]; simp
  have a2 : bits .and .i64 ((r : Int) / 64) 63 = (r : Int) / 64 % 64 := by
    have := mask64 6 (by decide) (r / 64) (by omega)
    rw [show ((2 : Int) ^ 6 - 1) = 63 by decide, show (((r / 64 : Nat)) : Int) = (r : Int) / 64 by omega] at this
    rw [this]; simp
  have a3 : bits .and .i64 ((r : Int) / 4096) 63 = (r : Int) / 4096 % 64 := by
    have := mask64 6 (by decide) (r / 4096) (by omega)
    rw [show ((2 : Int) ^ 6 - 1) = 63 by decide, show (((r / 4096 : Nat)) : Int) = (r : Int) / 4096 by omega] at this
    rw [this]; simp
  clear hv
  by_cases h1 : r < 128
  · have hcv := lit_str w [r] (by have := HL.out; rw [HE.out, if_pos h1] at this; exact this) 1 rfl
    simp only [List.map_cons, List.map_nil, Int.natCast_add, Int.natCast_ediv, Int.natCast_emod, Int.cast_ofNat_Int] at hcv
    go_enter Tryz.func65, Tryz.ntmps65
    go_wp2
    go_ret
    rw [HE.out, if_pos h1]
    exact ⟨rfl, HB.out _⟩
  · by_cases h2 : r < 2048
    · have hcv := lit_str w [192 + r / 64, 128 + r % 64] (by have := HL.out; rw [HE.out, if_neg h1, if_pos h2] at this; exact this) 2 rfl
      simp only [List.map_cons, List.map_nil, Int.natCast_add, Int.natCast_ediv, Int.natCast_emod, Int.cast_ofNat_Int] at hcv
      go_enter Tryz.func65, Tryz.ntmps65
      go_wp2
      go_ret
      rw [HE.out, if_neg h1, if_pos h2]
      exact ⟨rfl, HB.out _⟩
    · by_cases h3 : r < 65536
      · have hcv := lit_str w [224 + r / 4096, 128 + r / 64 % 64, 128 + r % 64] (by have := HL.out; rw [HE.out, if_neg h1, if_neg h2, if_pos h3] at this; exact this) 3 rfl
        simp only [List.map_cons, List.map_nil, Int.natCast_add, Int.natCast_ediv, Int.natCast_emod, Int.cast_ofNat_Int] at hcv
        go_enter Tryz.func65, Tryz.ntmps65
        go_wp2
        go_ret
        rw [HE.out, if_neg h1, if_neg h2, if_pos h3]
        exact ⟨rfl, HB.out _⟩
      · have hcv := lit_str w [240 + r / 262144, 128 + r / 4096 % 64, 128 + r / 64 % 64, 128 + r % 64] (by have := HL.out; rw [HE.out, if_neg h1, if_neg h2, if_neg h3] at this; exact this) 4 rfl
        simp only [List.map_cons, List.map_nil, Int.natCast_add, Int.natCast_ediv, Int.natCast_emod, Int.cast_ofNat_Int] at hcv
        go_enter Tryz.func65, Tryz.ntmps65
        go_wp2
        go_ret
        rw [HE.out, if_neg h1, if_neg h2, if_neg h3]
        exact ⟨rfl, HB.out _⟩

set_option maxRecDepth 100000 in
set_option maxHeartbeats 2000000 in
theorem of_any (ao : Option Addr) (cap : Nat) (l : List Nat) (w : World) (hr : VRow w ao (iv l)) (hv : ∀ r ∈ l, TxtMath.valid r = true) (hc : l.length ≤ cap) (hm : cap ≤ maxLen) (hl : 4 * l.length ≤ 140737488355328) :
    Calls Tryz.prog 34 #[.slice ao l.length cap] w fun e w' => e = .returned (.string (strN (TxtMath.encs l))) ∧ Below w.heap.size w w' := by
  unfold maxLen at hm
  obtain ⟨n, hn⟩ : ∃ n, n = l.length := ⟨_, rfl⟩
  have HN : Hid _ := hn
  have HR : Hid _ := hr
  rw [← hn] at hc hl ⊢
  clear hn hr
  go_enter Tryz.func34, Tryz.ntmps34
  go_wp2
  go_loopw [3, 4] (fun s i wr => ∃ k : Nat, k ≤ n ∧ i = .int .i64 (k : Int) ∧ s = .string (strN (TxtMath.encs (l.take k))) ∧ Below w.heap.size w wr) (fun _ i _ => n - (intOf i).toNat)
  case atStart => exact ⟨0, by omega, rfl, rfl, Below.refl _ _⟩
  case round =>
    obtain ⟨k, hk, rfl, rfl, hbw⟩ := hrel
    have HB : Hid _ := hbw
    by_cases hlt : k < n
    · have hkl : k < l.length := by rw [← HN.out]; exact hlt
      obtain ⟨b, off, rfl, hcell⟩ := VRow.at (VRow.later HR.out (hbw.mono (Nat.le_refl _))) (k := k) (by rw [iv_len]; exact hkl)
      obtain ⟨r, hrk⟩ : ∃ r, l[k]? = some r := ⟨l[k], List.getElem?_eq_getElem hkl⟩
      have hcx := hcell k _ (iv_get hrk)
      have hrv := hv r (List.mem_of_getElem? hrk)
      have HT : Hid (TxtMath.encs (l.take (k + 1)) = TxtMath.encs (l.take k) ++ TxtMath.enc r) := by
        show _ = _
        obtain ⟨r2, h1, h2, h3⟩ : ∃ r2, l[k]? = some r2 ∧ True ∧ l.take (k + 1) = l.take k ++ [r2] := ⟨l[k], List.getElem?_eq_getElem hkl, trivial, List.take_succ_eq_append_getElem hkl⟩
        rw [hrk] at h1
        obtain rfl := Option.some.inj h1
        rw [h3, TxtMath.encs_append, TxtMath.encs_one]
      have hel := TxtMath.encs_len_le (l.take k)
      have htl : (l.take k).length ≤ n := by rw [List.length_take]; omega
      have hrl := (TxtMath.enc_len r).2
      have HU : Hid _ := utf_any r wr hrv
      have hsum : ∀ w, (Op.stringOp BinOp.add (strN (TxtMath.encs (l.take k))) (strN (TxtMath.enc r))).run Tryz.prog w = .ok (.string (strN (TxtMath.encs (l.take (k + 1))))) w := by
        intro w
        rw [run_string_add_sum (P := Tryz.prog) (w := w) _ _ (by rw [strN_size, strN_size]; omega), strN_append, HT.out]
      clear hcell hrk hrv hbw
      go_wp2_with fail
      refine Calls.mono HU.out ?_
      rintro e w1 ⟨rfl, h1⟩
      have HB1 : Hid _ := HB.out.trans (h1.mono HB.out.size)
      clear h1
      go_wp2
      go_roundw
      case rel => exact ⟨k + 1, by omega, by simp, rfl, HB1.out⟩
      case measure => simp [intOf]; omega
    · clear hbw
      have e : k = n := by omega
      subst e
      go_wp2
      go_ret
      refine ⟨?_, HB.out⟩
      have : l.take k = l := List.take_of_length_le (by rw [← HN.out]; omega)
      rw [this]
      rfl
end Go.Proofs.YteockpllnhjooaaGreatDoor

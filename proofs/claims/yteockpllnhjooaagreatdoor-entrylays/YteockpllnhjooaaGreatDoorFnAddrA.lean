/-
  Walks of addr.isSmall, isCapital, isDigit, isFree, usualPort, small.
-/
import Derived.Test.YteockpllnhjooaaGreatDoorCutKit
import Derived.Test.YteockpllnhjooaaGreatDoorBufKit
namespace Go.Proofs.YteockpllnhjooaaGreatDoor
open Go.RowKit NumMath
open AddrMath (pre post is No Ends cut3 colon splitD lower small)
set_option maxRecDepth 100000
set_option linter.unusedVariables false
set_option linter.unusedSimpArgs false
def smallC (r : Nat) : Bool := decide (97 ≤ r) && decide (r ≤ 122)
def capC (r : Nat) : Bool := decide (65 ≤ r) && decide (r ≤ 90)
theorem isSmall_any (r : Nat) (w : World) (h : r ≤ 1114111) :
    Calls Tryz.prog 99 #[.int .i32 (r : Int)] w fun e w' => e = .returned (.bool (smallC r)) ∧ w' = w := by
  go_enter Tryz.func99, Tryz.ntmps99
  go_wp2
  all_goals
    go_ret
    refine ⟨ret_bool ?_, rfl⟩
    rw [Bool.eq_iff_iff]
    simp [smallC] at *
    try omega
theorem isCapital_any (r : Nat) (w : World) (h : r ≤ 1114111) :
    Calls Tryz.prog 72 #[.int .i32 (r : Int)] w fun e w' => e = .returned (.bool (capC r)) ∧ w' = w := by
  go_enter Tryz.func72, Tryz.ntmps72
  go_wp2
  all_goals
    go_ret
    refine ⟨ret_bool ?_, rfl⟩
    rw [Bool.eq_iff_iff]
    simp [capC] at *
    try omega
theorem isDigit_any (r : Nat) (w : World) (h : r ≤ 1114111) :
    Calls Tryz.prog 97 #[.int .i32 (r : Int)] w fun e w' => e = .returned (.bool (AddrMath.digit r)) ∧ w' = w := by
  go_enter Tryz.func97, Tryz.ntmps97
  go_wp2
  all_goals
    go_ret
    refine ⟨ret_bool ?_, rfl⟩
    rw [Bool.eq_iff_iff]
    simp [AddrMath.digit] at *
    try omega
theorem isFree_any (r : Nat) (w : World) (h : r ≤ 1114111) :
    Calls Tryz.prog 78 #[.int .i32 (r : Int)] w fun e w' => e = .returned (.bool (AddrMath.plain r)) ∧ w' = w := by
  go_enter Tryz.func78, Tryz.ntmps78
  go_wp2
  all_goals
    go_ret
    refine ⟨ret_bool ?_, rfl⟩
    rw [Bool.eq_iff_iff]
    simp [AddrMath.plain] at *
    try omega
theorem usualPort_any (sch : List Nat) (hs : ∀ c ∈ sch, c < 256) (w : World) :
    Calls Tryz.prog 75 #[.string (strN sch)] w fun e w' => e = .returned (.string (strN (AddrMath.usual sch))) ∧ w' = w := by
  have he := eq_lit AddrMath.https [104, 116, 116, 112, 115] rfl hs (by decide)
  have HU : Hid (AddrMath.usual sch = if sch = AddrMath.https then [52, 52, 51] else [56, 48]) := rfl
  by_cases h : sch = AddrMath.https
  · rw [decide_eq_true h] at he
    have HH : Hid _ := h
    clear h
    go_enter Tryz.func75, Tryz.ntmps75
    go_wp2
    go_ret
    rw [HU.out, if_pos HH.out]
    exact ⟨rfl, rfl⟩
  · rw [decide_eq_false h] at he
    have HH : Hid _ := h
    clear h
    go_enter Tryz.func75, Tryz.ntmps75
    go_wp2
    go_ret
    rw [HU.out, if_neg HH.out]
    exact ⟨rfl, rfl⟩

set_option maxRecDepth 100000 in
set_option maxHeartbeats 4000000 in
theorem small_any (l : List Nat) (w : World) (hb : ∀ c ∈ l, c < 256) (hm : l.length ≤ 1000000000) :
    Calls Tryz.prog 46 #[.string (strN l)] w fun e w' => e = .returned (.string (strN (lower l))) ∧ Below w.heap.size w w' := by
  have hconv := conv_bytes w l
  have HBf : Hid (Buf (Lib.bytesWorld w 5 (strN l)) w.heap.size l) := Buf.new w l hb
  have HB0 : Hid (Below w.heap.size w (Lib.bytesWorld w 5 (strN l))) := bytes_below w l
  obtain ⟨n, hn⟩ : ∃ n, n = l.length := ⟨_, rfl⟩
  have HN : Hid _ := hn
  rw [← hn] at hconv hm
  generalize grownCap w n 0 5 = cap at *
  clear hn
  go_enter Tryz.func46, Tryz.ntmps46
  go_wp2
  generalize Lib.bytesWorld w 5 (strN l) = w1 at *
  obtain ⟨g, hg⟩ : ∃ g, g = w.heap.size := ⟨_, rfl⟩
  rw [← hg] at HBf ⊢
  have hgw : w.heap.size ≤ g := by omega
  clear hg hconv
  go_loopw [10] (fun i wr => ∃ k : Nat, k ≤ n ∧ i = .int .i64 (k : Int) ∧ Buf wr g ((l.take k).map small ++ l.drop k) ∧ Below w.heap.size w wr) (fun i _ => n - (intOf i).toNat)
  case atStart => exact ⟨0, by omega, rfl, by simpa using HBf.out, HB0.out⟩
  case round =>
    clear HBf HB0
    obtain ⟨k, hk, rfl, hbuf, hbw⟩ := hrel
    have HF : Hid _ := hbuf
    have HB : Hid _ := hbw
    clear hbuf hbw
    by_cases hlt : k < n
    · obtain ⟨c, hc⟩ : ∃ c, l[k]? = some c := ⟨l[k]'(by rw [← HN.out]; exact hlt), List.getElem?_eq_getElem _⟩
      have HC : Hid _ := hc
      have hc256 := hb c (List.mem_of_getElem? hc)
      have hcell := HF.out.1 k c (take_at l small k c hc)
      have hfz := HF.out.2 k (by rw [take_len, ← HN.out]; exact hlt)
      clear hc
      cases hcap : capC c with
      | true =>
        have hcr : 65 ≤ c ∧ c ≤ 90 := by simpa [capC] using hcap
        have HBx : Hid (Buf (wr.setCell ⟨g, k, none⟩ (.int .u8 ((c : Int) - 65 + 97))) g ((l.take (k + 1)).map small ++ l.drop (k + 1))) := by
          have := Buf.set HF.out k (small c) (by rw [take_len, ← HN.out]; exact hlt)
          rw [take_set l small k c HC.out] at this
          have e : ((small c : Nat) : Int) = (c : Int) - 65 + 97 := by unfold small; rw [if_pos hcr]; omega
          rw [e] at this
          exact this
        have HB2 : Hid (Below w.heap.size w (wr.setCell ⟨g, k, none⟩ (.int .u8 ((c : Int) - 65 + 97)))) := HB.out.setCell hgw _
        go_wp2_with (go_at_call 72; refine (isCapital_any c _ (by omega)).mono ?_; rintro e w2 ⟨rfl, rfl⟩)
        go_roundw
        case rel => exact ⟨k + 1, by omega, by simp, HBx.out, HB2.out⟩
        case measure => simp [intOf]; omega
      | false =>
        have hs : small c = c := by unfold small; rw [if_neg (by simpa [capC] using hcap)]
        have HS : Hid _ := hs
        clear hs
        go_wp2_with (go_at_call 72; refine (isCapital_any c _ (by omega)).mono ?_; rintro e w2 ⟨rfl, rfl⟩)
        go_roundw
        case rel => exact ⟨k + 1, by omega, by simp, by rw [← take_keep l small k c HC.out HS.out]; exact HF.out, HB.out⟩
        case measure => simp [intOf]; omega
    · have e : k = n := by omega
      subst e
      have hst := Buf.str HF.out (n := k) (by rw [take_len, ← HN.out]) cap
      have HL : Hid ((l.take k).map small ++ l.drop k = lower l) := by
        show _ = _
        rw [List.take_of_length_le (by rw [← HN.out]; omega), List.drop_eq_nil_of_le (by rw [← HN.out]; omega)]
        simp [lower]
      rw [HL.out] at hst
      go_wp2
      go_ret
      exact ⟨rfl, HB.out⟩
end Go.Proofs.YteockpllnhjooaaGreatDoor

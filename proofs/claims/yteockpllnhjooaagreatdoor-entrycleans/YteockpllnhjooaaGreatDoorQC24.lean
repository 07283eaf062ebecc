/-
  FnRefAa.
-/
import Derived.Test.YteockpllnhjooaaGreatDoorQC16
import Derived.Test.YteockpllnhjooaaGreatDoorQC17
import Derived.Deep.QuietTactic
namespace Go.Proofs.YteockpllnhjooaaGreatDoor
open Go.RowKit NumMath
open AddrMath (pre post is No Ends lower small plain hexV escape hexD)
set_option maxRecDepth 100000
set_option linter.unusedVariables false
set_option linter.unusedSimpArgs false

/-- One of some bytes. -/
def anyOf (S : List Nat) : Nat → Bool := fun x => S.contains x
theorem anyOf_one (c : Nat) : anyOf [c] = is c := by
  funext x
  by_cases h : x = c <;> simp [anyOf, is, h]
theorem pre_here {p : Nat → Bool} {l : List Nat} {k c : Nat} (h : l[k]? = some c) (hc : p c = true) (hn : No p (l.take k)) : (pre p l).length = k := by
  obtain ⟨hk, he⟩ := List.getElem?_eq_some_iff.1 h
  have e : l = l.take k ++ c :: l.drop (k + 1) := by
    rw [← he, ← List.drop_eq_getElem_cons hk, List.take_append_drop]
  rw [e, AddrMath.pre_hit hc _ hn, List.length_take]
  omega
theorem No.take_succ {p : Nat → Bool} {l : List Nat} {k c : Nat} (h : l[k]? = some c) (hc : p c = false) (hn : No p (l.take k)) : No p (l.take (k + 1)) := by
  obtain ⟨hk, he⟩ := List.getElem?_eq_some_iff.1 h
  rw [List.take_succ_eq_append_getElem hk, he]
  exact hn.app (AddrMath.No.cons hc (AddrMath.No.nil p))

set_option maxRecDepth 100000 in
set_option maxHeartbeats 4000000 in
theorem upTo_any (l S : List Nat) (w : World) (hb : ∀ c ∈ l, c < 256) (hS : ∀ c ∈ S, c < 256) (hm : l.length ≤ 1000000) (hSm : S.length ≤ 1000000) :
    Calls Tryz.prog 56 #[.string (strN l), .string (strN S)] w fun e w' => e = .returned (.int .i64 (((pre (anyOf S) l).length : Nat) : Int)) ∧ Below w.heap.size w w' := by
  have hsz := strN_size l
  have hSz := strN_size S
  obtain ⟨R, hR⟩ : ∃ R, R = (pre (anyOf S) l).length := ⟨_, rfl⟩
  have HR : Hid _ := hR
  rw [← hR]
  clear hR
  go_enter Tryz.func56, Tryz.ntmps56
  go_wp2
  go_loopw [5] (fun i wr => ∃ k : Nat, k ≤ l.length ∧ i = .int .i64 (k : Int) ∧ No (anyOf S) (l.take k) ∧ Below w.heap.size w wr) (fun i _ => l.length - (intOf i).toNat)
  case atStart => exact ⟨0, by omega, rfl, by simp; exact AddrMath.No.nil _, Below.refl _ _⟩
  case round =>
    obtain ⟨k, hk, rfl, hno, hbw⟩ := hrel
    have HNo : Hid _ := hno
    have HB : Hid _ := hbw
    clear hno hbw
    by_cases hlt : k < l.length
    · obtain ⟨c, hc⟩ : ∃ c, l[k]? = some c := ⟨l[k], List.getElem?_eq_getElem hlt⟩
      have hc256 := hb c (List.mem_of_getElem? hc)
      have hix : ∀ w, (Instr.index 9 (.string (strN l)) (.int .i64 (k : Int))).run Tryz.prog w = .ok (.int .u8 (c : Int)) w := by
        intro w
        have := index_strN l hb k hlt .i64 w
        rw [hc] at this; exact this
      have HC : Hid _ := hc
      clear hc
      have hkI : (k : Int) < (l.length : Int) := by omega
      go_wp2
      go_loopw [6] (fun i wr => ∃ j : Nat, j ≤ S.length ∧ i = .int .i64 (j : Int) ∧ (∀ t x : Nat, t < j → S[t]? = some x → x ≠ c) ∧ Below w.heap.size w wr) (fun i _ => S.length - (intOf i).toNat)
      case atStart => exact ⟨0, by omega, rfl, fun t x h => by omega, HB.out⟩
      case round =>
        obtain ⟨j, hj, rfl, hall, hbw⟩ := hrel
        have HA : Hid _ := hall
        have HB2 : Hid _ := hbw
        clear hall hbw
        by_cases hjl : j < S.length
        · obtain ⟨x, hx⟩ : ∃ x, S[j]? = some x := ⟨S[j], List.getElem?_eq_getElem hjl⟩
          have hx256 := hS x (List.mem_of_getElem? hx)
          have hixS : ∀ w, (Instr.index 9 (.string (strN S)) (.int .i64 (j : Int))).run Tryz.prog w = .ok (.int .u8 (x : Int)) w := by
            intro w
            have := index_strN S hS j hjl .i64 w
            rw [hx] at this; exact this
          have HX : Hid _ := hx
          clear hx
          by_cases hxc : x = c
          · have HF : Hid (R = k) := by
              show _ = _
              rw [HR.out]
              refine pre_here HC.out ?_ HNo.out
              simp [anyOf]
              rw [← hxc]; exact List.mem_of_getElem? HX.out
            subst hxc
            go_wp2
            go_quiet (fail)
            go_wp2
            go_ret
            rw [HF.out]
            exact ⟨rfl, Below.drewN HB2.out _⟩
          · have hne : ((c : Int) == (x : Int)) = false := by simp; omega
            have HXC : Hid _ := hxc
            clear hxc
            go_wp2
            go_quiet (fail)
            go_wp2
            go_roundw
            case rel =>
              refine ⟨j + 1, by omega, by simp, fun t y ht hy => ?_, Below.drewN HB2.out _⟩
              by_cases e : t = j
              · subst e
                have := HX.out
                rw [hy] at this
                rw [Option.some.inj this]; exact HXC.out
              · exact HA.out t y (by omega) hy
            case measure => simp [intOf]; omega
        · have HNo2 : Hid _ := No.take_succ (p := anyOf S) HC.out (by
            simp [anyOf]
            intro hmem
            obtain ⟨t, ht1, ht2⟩ := List.getElem_of_mem hmem
            exact HA.out t c (by omega) (by rw [← ht2]; exact List.getElem?_eq_getElem ht1) rfl) HNo.out
          go_wp2
          go_roundw
          case rel => exact ⟨k + 1, by omega, by simp, HNo2.out, HB2.out⟩
          case measure => simp [intOf]; omega
    · have HF : Hid (R = l.length) := by
        show _ = _
        have h1 := HNo.out
        rw [List.take_of_length_le (by omega)] at h1
        rw [HR.out, AddrMath.pre_all h1]
      go_wp2
      go_ret
      rw [HF.out]
      exact ⟨rfl, HB.out⟩

set_option maxRecDepth 100000 in
set_option maxHeartbeats 4000000 in
theorem refLower_any (l : List Nat) (w : World) (hb : ∀ c ∈ l, c < 256) (hm : l.length ≤ 1000000000) :
    Calls Tryz.prog 57 #[.string (strN l)] w fun e w' => e = .returned (.string (strN (lower l))) ∧ Below w.heap.size w w' := by
  have hconv := conv_bytes w l
  have HBf : Hid (Buf (Lib.bytesWorld w 5 (strN l)) w.heap.size l) := Buf.new w l hb
  have HB0 : Hid (Below w.heap.size w (Lib.bytesWorld w 5 (strN l))) := bytes_below w l
  obtain ⟨n, hn⟩ : ∃ n, n = l.length := ⟨_, rfl⟩
  have HN : Hid _ := hn
  rw [← hn] at hconv hm
  generalize grownCap w n 0 5 = cap at *
  clear hn
  go_enter Tryz.func57, Tryz.ntmps57
  go_wp2
  generalize Lib.bytesWorld w 5 (strN l) = w1 at *
  obtain ⟨g, hg⟩ : ∃ g, g = w.heap.size := ⟨_, rfl⟩
  rw [← hg] at HBf ⊢
  have hgw : w.heap.size ≤ g := by omega
  clear hg hconv
  go_loopw [4] (fun i wr => ∃ k : Nat, k ≤ n ∧ i = .int .i64 (k : Int) ∧ Buf wr g ((l.take k).map small ++ l.drop k) ∧ Below w.heap.size w wr) (fun i _ => n - (intOf i).toNat)
  case atStart => exact ⟨0, by omega, rfl, by simpa using HBf.out, HB0.out⟩
  case round =>
    clear HBf HB0
    obtain ⟨k, hk, rfl, hbuf, hbw⟩ := hrel
    have HF : Hid _ := hbuf
    have HB : Hid _ := hbw
    clear hbuf hbw
    by_cases hlt : k < n
    · obtain ⟨c, hc⟩ : ∃ c, l[k]? = some c := ⟨l[k]'(by rw [← HN.out]; exact hlt), List.getElem?_eq_getElem _⟩
      have HC : Hid _ := hc
      have hc256 := hb c (List.mem_of_getElem? hc)
      have hcell := HF.out.1 k c (take_at l small k c hc)
      have hfz := HF.out.2 k (by rw [take_len, ← HN.out]; exact hlt)
      clear hc
      by_cases hcr : 65 ≤ c ∧ c ≤ 90
      · have HBx : Hid (Buf (wr.setCell ⟨g, k, none⟩ (.int .u8 ((c : Int) + 32))) g ((l.take (k + 1)).map small ++ l.drop (k + 1))) := by
          have := Buf.set HF.out k (small c) (by rw [take_len, ← HN.out]; exact hlt)
          rw [take_set l small k c HC.out] at this
          have e : ((small c : Nat) : Int) = (c : Int) + 32 := by unfold small; rw [if_pos hcr]; omega
          rw [e] at this
          exact this
        have HB2 : Hid (Below w.heap.size w (wr.setCell ⟨g, k, none⟩ (.int .u8 ((c : Int) + 32)))) := HB.out.setCell hgw _
        go_wp2
        go_roundw
        case rel => exact ⟨k + 1, by omega, by simp, HBx.out, HB2.out⟩
        case measure => simp [intOf]; omega
      · have hs : small c = c := by unfold small; rw [if_neg hcr]
        have HS : Hid _ := hs
        clear hs
        have hcs : c < 65 ∨ 90 < c := by omega
        clear hcr
        rcases hcs with h1 | h1
        all_goals
          go_wp2
          go_roundw
          case rel => exact ⟨k + 1, by omega, by simp, by rw [← take_keep l small k c HC.out HS.out]; exact HF.out, HB.out⟩
          case measure => simp [intOf]; omega
    · have e : k = n := by omega
      subst e
      have hst := Buf.str HF.out (n := k) (by rw [take_len, ← HN.out]) cap
      have HL : Hid ((l.take k).map small ++ l.drop k = lower l) := by
        show _ = _
        rw [List.take_of_length_le (by rw [← HN.out]; omega), List.drop_eq_nil_of_le (by rw [← HN.out]; omega)]
        simp [lower]
      rw [HL.out] at hst
      go_wp2
      go_ret
      exact ⟨rfl, HB.out⟩
theorem refPlain_any (c : Nat) (w : World) (h : c < 256) :
    Calls Tryz.prog 89 #[.int .u8 (c : Int)] w fun e w' => e = .returned (.bool (plain c)) ∧ w' = w := by
  go_enter Tryz.func89, Tryz.ntmps89
  go_wp2
  all_goals
    go_ret
    refine ⟨ret_bool ?_, rfl⟩
    rw [Bool.eq_iff_iff]
    simp [plain] at *
    try omega
/-- What hex answers. -/
def hexI (c : Nat) : Int := match hexV c with | some v => (v : Int) | none => -1
theorem refHex_any (c : Nat) (w : World) (h : c < 256) :
    Calls Tryz.prog 88 #[.int .u8 (c : Int)] w fun e w' => e = .returned (.int .i64 (hexI c)) ∧ w' = w := by
  have HV : Hid (hexI c = match (if 48 ≤ c ∧ c ≤ 57 then some (c - 48) else if 97 ≤ c ∧ c ≤ 102 then some (c - 87) else if 65 ≤ c ∧ c ≤ 70 then some (c - 55) else none) with | some v => (v : Int) | none => -1) := rfl
  go_enter Tryz.func88, Tryz.ntmps88
  go_wp2
  all_goals go_ret
  all_goals refine ⟨ret_int ?_, rfl⟩
  all_goals rw [HV.out]
  all_goals try simp at *
  all_goals first
    | (rw [if_pos (by omega)]; simp; omega)
    | (rw [if_neg (by omega), if_pos (by omega)]; simp; omega)
    | (rw [if_neg (by omega), if_neg (by omega), if_pos (by omega)]; simp; omega)
    | (rw [if_neg (by omega), if_neg (by omega), if_neg (by omega)])
def digitsU : List Nat := [48, 49, 50, 51, 52, 53, 54, 55, 56, 57, 65, 66, 67, 68, 69, 70]
theorem digitsU_at : ∀ q : Fin 16, (digitsU.drop q.val).take (q.val + 1 - q.val) = [hexD q.val] := by decide

set_option maxRecDepth 100000 in
set_option maxHeartbeats 4000000 in
theorem refEscape_any (b : Nat) (w : World) (h : b < 256) :
    Calls Tryz.prog 87 #[.int .u8 (b : Int)] w fun e w' => e = .returned (.string (strN (escape b))) ∧ Below w.heap.size w w' := by
  have HE : Hid (escape b = [37, hexD (b / 16), hexD (b % 16)]) := rfl
  obtain ⟨p, hp, hpe⟩ : ∃ p : Nat, (b : Int) / 16 = (p : Int) ∧ p = b / 16 := ⟨b / 16, by omega, rfl⟩
  obtain ⟨q, hq, hqe⟩ : ∃ q : Nat, bits .and .u8 (b : Int) 15 = (q : Int) ∧ q = b % 16 := ⟨b % 16, and15b b h, rfl⟩
  have hp16 : p < 16 := by omega
  have hq16 : q < 16 := by omega
  rw [← hpe, ← hqe] at HE
  clear hpe hqe
  have hw1 : IntKind.u8.wrap ((p : Int) + 1) = (p : Int) + 1 := by simp [IntKind.wrap, IntKind.bits, IntKind.signed]; omega
  have hw2 : IntKind.u8.wrap ((q : Int) + 1) = (q : Int) + 1 := by simp [IntKind.wrap, IntKind.bits, IntKind.signed]; omega
  have hs1 : ∀ w, (Instr.sliceAt 9 (.string ⟨#[48, 49, 50, 51, 52, 53, 54, 55, 56, 57, 65, 66, 67, 68, 69, 70]⟩) (some (.int .u8 (p : Int))) (some (.int .u8 ((p : Int) + 1))) none).run Tryz.prog w = .ok (.string (strN [hexD p])) w := by
    intro w
    have := run_slice_strN (w := w) digitsU .u8 .u8 p (p + 1) (by omega) (by show p + 1 ≤ 16; omega)
    rw [digitsU_at ⟨p, hp16⟩] at this
    exact this
  have hs2 : ∀ w, (Instr.sliceAt 9 (.string ⟨#[48, 49, 50, 51, 52, 53, 54, 55, 56, 57, 65, 66, 67, 68, 69, 70]⟩) (some (.int .u8 (q : Int))) (some (.int .u8 ((q : Int) + 1))) none).run Tryz.prog w = .ok (.string (strN [hexD q])) w := by
    intro w
    have := run_slice_strN (w := w) digitsU .u8 .u8 q (q + 1) (by omega) (by show q + 1 ≤ 16; omega)
    rw [digitsU_at ⟨q, hq16⟩] at this
    exact this
  have hc1 : ∀ w, (Op.stringOp BinOp.add ⟨#[37]⟩ (strN [hexD p])).run Tryz.prog w = .ok (.string (strN [37, hexD p])) w := sum_strN [37] [hexD p] (by simp)
  have hc2 : ∀ w, (Op.stringOp BinOp.add (strN [37, hexD p]) (strN [hexD q])).run Tryz.prog w = .ok (.string (strN [37, hexD p, hexD q])) w := sum_strN [37, hexD p] [hexD q] (by simp)
  generalize hexD p = x at *
  generalize hexD q = y at *
  go_enter Tryz.func87, Tryz.ntmps87
  go_wp2
  go_quiet (fail)
  go_wp2
  go_ret
  rw [HE.out]
  exact ⟨rfl, Below.drewN (Below.refl _ _) _⟩
end Go.Proofs.YteockpllnhjooaaGreatDoor

/-
  Walk of text.Less.
-/
import Derived.Test.YtpffjeoiacaihaaDoorIterKit
import Derived.Test.YtpffjeoiacaihaaDoorFnLeaf
import Derived.Test.YtpffjeoiacaihaaDoorShelf
import Derived.Test.YtpffjeoiacaihaaDoorTxtLess
import Derived.Test.YtpffjeoiacaihaaDoorFnRefLess
namespace Go.Proofs.YtpffjeoiacaihaaDoor
open Go.RowKit NumMath
set_option maxRecDepth 100000
set_option linter.unusedVariables false
set_option linter.unusedSimpArgs false

theorem run_slice_strN1 {w : World} (l : List Nat) (k1 : IntKind) (i : Nat) (h1 : i ≤ l.length) :
    (Instr.sliceAt 9 (.string (strN l)) (some (.int k1 (i : Int))) none none).run Tryd.prog w = .ok (.string (strN (l.drop i))) w := by
  rw [run_sliceAt_string w 9 _ _ _ _ Tryd.underlying9]
  have e : strN (l.drop i) = (strN l).extract i l.length := by
    rw [strN_extract, List.take_of_length_le (by simp)]
  rw [e]
  simp [Instr.slice, run_underlying Tryd.underlying9, Instr.sliceBounds, run_sliceBound, strN_size, h1]
theorem decodeGo_strN (t : List Nat) (hb : ∀ c ∈ t, c < 256) (h : t ≠ []) : Lib.decodeGo (strN t) = TxtMath.dec t := by
  have hl : 0 < t.length := List.length_pos_iff.2 h
  unfold Lib.decodeGo
  rw [if_neg (by rw [strN_size]; omega), dec_strN t hb 0 hl]
  rfl
theorem strN_empty (l : List Nat) : (strN l).toList.isEmpty = decide (l = []) := by
  rw [strN_toList]; cases l <;> simp

/-- The library's tables, as the program's variables hold them. -/
def Tab (w : World) : Prop := Lib.Utf8Tabs 1 2 w
theorem Tab.later {w w' : World} (h : Tab w) (hb : Below w.heap.size w w') : Tab w' := Utf8Tabs_below h hb

set_option maxRecDepth 100000 in
set_option maxHeartbeats 4000000 in
theorem less_any (a b : List Nat) (w : World) (ht : Tab w) (ha : ∀ c ∈ a, c < 256) (hb : ∀ c ∈ b, c < 256) (hma : a.length ≤ 17592186044000) (hmb : b.length ≤ 17592186044000) :
    Calls Tryd.prog 48 #[.string (strN a), .string (strN b)] w fun e w' => e = .returned (.bool (TxtMath.lessB a b)) ∧ Below w.heap.size w w' := by
  have hls := less_str ha hb
  have HTb : Hid _ := ht
  have HI0 : Hid (Iter (w.alloc (.stringIter (strN a) 0)) w.heap.size a 0) := Iter.new w a _ rfl
  have HB0 : Hid (Below w.heap.size w (w.alloc (.stringIter (strN a) 0))) := (Below.refl _ w).alloc (Nat.le_refl _) _
  have HD : Hid (∀ P X Y x y, TxtMath.foldR a = P ++ x :: X → TxtMath.foldR b = P ++ y :: Y → x ≠ y → _) := TxtMath.less_diff a b
  have HS : Hid (∀ P Y y, TxtMath.foldR a = P → TxtMath.foldR b = P ++ y :: Y → _) := TxtMath.less_short a b
  have HL : Hid (∀ P X x, TxtMath.foldR a = P ++ x :: X → TxtMath.foldR b = P → _) := TxtMath.less_long a b
  have HE : Hid (TxtMath.foldR a = TxtMath.foldR b → _) := TxtMath.less_same a b
  have HA0 : Hid (TxtMath.foldR a = [] ++ (TxtMath.runes (a.drop 0)).map TxtMath.low) := rfl
  have HB00 : Hid (TxtMath.foldR b = [] ++ (TxtMath.runes (b.drop 0)).map TxtMath.low) := rfl
  generalize TxtMath.foldR a = X at *
  generalize TxtMath.foldR b = Y at *
  clear ht
  go_enter Tryd.func48, Tryd.ntmps48
  go_wp2
  go_loopw [5] (fun v wr => ∃ (pos q : Nat) (P : List Nat), q ≤ b.length ∧ v = .string (strN (b.drop q)) ∧ Iter wr w.heap.size a pos ∧ Below w.heap.size w wr ∧ X = P ++ (TxtMath.runes (a.drop pos)).map TxtMath.low ∧ Y = P ++ (TxtMath.runes (b.drop q)).map TxtMath.low) (fun _ wr => a.length - wr.iterPos w.heap.size)
  case atStart => exact ⟨0, 0, [], by omega, by simp, HI0.out, HB0.out, HA0.out, HB00.out⟩
  case round =>
    clear HI0 HB0 HA0 HB00
    obtain ⟨pos, q, P, hq, rfl, hit, hbw, hX, hY⟩ := hrel
    have hlt := hit.lt
    have HIT : Hid _ := hit
    have HBW : Hid _ := hbw
    have HX : Hid _ := hX
    have HY : Hid _ := hY
    have hbd : ∀ c ∈ b.drop q, c < 256 := fun c hc => hb c (List.mem_of_mem_drop hc)
    have heq := strN_empty (b.drop q)
    by_cases hp : pos < a.length
    · obtain ⟨r, n, hnx, hv, hr, hn, hpn, hru, hdec⟩ := next_some hit ha hp
      have HRU : Hid _ := hru
      have HI2 : Hid _ := hit.set (pos + n)
      have HB2 : Hid _ := Lib.below_iterAt hbw (k := w.heap.size) (Nat.le_refl _) (strN a) (pos + n)
      have hsz : w.heap.size < (wr.iterAt w.heap.size (strN a) (pos + n)).heap.size := by rw [Lib.iterAt_size]; exact hlt
      have HM : Hid (a.length - (pos + n) < a.length - wr.iterPos w.heap.size) := by
        show _ < _; rw [Iter.pos HIT.out]; omega
      have HX2 : Hid (X = P ++ TxtMath.low r :: (TxtMath.runes (a.drop (pos + n))).map TxtMath.low) := by show _ = _; rw [hX, hru]; rfl
      clear hit hbw hru hdec hX
      generalize wr.iterAt w.heap.size (strN a) (pos + n) = w1 at *
      by_cases hqe : q < b.length
      · have hne : b.drop q ≠ [] := by intro e; have := congrArg List.length e; simp at this; omega
        rw [decide_eq_false hne] at heq
        have HDC : Hid _ := utf8_DecodeRuneInString (strN (b.drop q)) w1 (Tab.later HTb.out HB2.out)
        rw [decodeGo_strN _ hbd hne] at HDC
        have hru := TxtMath.runes_at b q hqe
        have hdl := TxtMath.dec_le (b.drop q) hne
        have hdp := (TxtMath.dec_pos (b.drop q)).1
        have hdv := TxtMath.valid_le (TxtMath.dec_valid (b.drop q))
        have hdrop : ∀ m, (b.drop q).drop m = b.drop (q + m) := fun m => List.drop_drop
        generalize TxtMath.dec (b.drop q) = d at *
        obtain ⟨r2, n2⟩ := d
        simp only at HDC hru hdl hdp hdv
        have HY2 : Hid (Y = P ++ TxtMath.low r2 :: (TxtMath.runes (b.drop (q + n2))).map TxtMath.low) := by show _ = _; rw [hY, hru]; rfl
        have hqn : q + n2 ≤ b.length := by simp at hdl; omega
        have hsl : ∀ w, (Instr.sliceAt 9 (.string (strN (b.drop q))) (some (.int .i64 (n2 : Int))) none none).run Tryd.prog w = .ok (.string (strN (b.drop (q + n2)))) w := by
          intro w; rw [run_slice_strN1 _ _ _ hdl, hdrop]
        clear hY hru hdl hne hdrop
        by_cases hll : TxtMath.low r = TxtMath.low r2
        · have hne2 : (((TxtMath.low r : Nat) : Int) != ((TxtMath.low r2 : Nat) : Int)) = false := by simp [hll]
          have HLL : Hid _ := hll
          clear hll
          go_wp2_with fail
          refine Calls.mono HDC.out ?_
          rintro e w2 ⟨rfl, hb2⟩
          have HI3 : Hid _ := Iter.below HI2.out hb2 hsz
          have HB3 : Hid _ := HB2.out.trans (hb2.mono HB2.out.size)
          clear hb2
          go_wp2_with fail
          refine (folded_any r _ hr).mono ?_
          rintro e w3 ⟨rfl, rfl⟩
          go_wp2_with fail
          refine (folded_any r2 _ hdv).mono ?_
          rintro e w3 ⟨rfl, rfl⟩
          go_wp2
          go_roundw
          case rel =>
            refine ⟨pos + n, q + n2, P ++ [TxtMath.low r], hqn, rfl, HI3.out, HB3.out, ?_, ?_⟩
            · have := HX2.out; rw [this]; simp
            · have := HY2.out; rw [this, HLL.out]; simp
          case measure => rw [Iter.pos HI3.out]; exact HM.out
        · have hne2 : (((TxtMath.low r : Nat) : Int) != ((TxtMath.low r2 : Nat) : Int)) = true := by simp; omega
          have HF : Hid _ := HD.out _ _ _ _ _ HX2.out HY2.out hll
          clear hll
          go_wp2_with fail
          refine Calls.mono HDC.out ?_
          rintro e w2 ⟨rfl, hb2⟩
          have HI3 : Hid _ := Iter.below HI2.out hb2 hsz
          have HB3 : Hid _ := HB2.out.trans (hb2.mono HB2.out.size)
          clear hb2
          go_wp2_with fail
          refine (folded_any r _ hr).mono ?_
          rintro e w3 ⟨rfl, rfl⟩
          go_wp2_with fail
          refine (folded_any r2 _ hdv).mono ?_
          rintro e w3 ⟨rfl, rfl⟩
          go_wp2_with fail
          refine (folded_any r _ hr).mono ?_
          rintro e w3 ⟨rfl, rfl⟩
          go_wp2_with fail
          refine (folded_any r2 _ hdv).mono ?_
          rintro e w3 ⟨rfl, rfl⟩
          go_wp2
          go_ret
          refine ⟨?_, HB3.out⟩
          rw [HF.out]
          exact ret_bool (by simp)
      · have hne : b.drop q = [] := List.drop_eq_nil_of_le (by omega)
        rw [hne] at heq
        have HF : Hid _ := HL.out P _ _ HX2.out (by rw [hY, hne]; simp [TxtMath.runes_nil])
        have hbq : strN (b.drop q) = strN [] := by rw [hne]
        rw [hbq]
        have he : (strN []).toList.isEmpty = true := heq
        clear heq hY hne hbq
        go_wp2
        go_ret
        exact ⟨ret_bool HF.out.symm, HB2.out⟩
    · have hnx := next_none (l := a) hit hp
      have hXP : X = P := by rw [hX, TxtMath.runes_end a pos hp]; simp
      by_cases hqe : q < b.length
      · have hne : b.drop q ≠ [] := by intro e; have := congrArg List.length e; simp at this; omega
        rw [decide_eq_false hne] at heq
        have HF : Hid _ := HS.out P _ _ hXP (by rw [hY, TxtMath.runes_at b q hqe]; rfl)
        clear hit hbw hX hY hXP hne
        go_wp2
        go_ret
        exact ⟨ret_bool HF.out.symm, HBW.out⟩
      · have hne : b.drop q = [] := List.drop_eq_nil_of_le (by omega)
        rw [hne] at heq
        have HF : Hid _ := HE.out (by rw [hXP, hY, hne]; simp [TxtMath.runes_nil])
        have hbq : strN (b.drop q) = strN [] := by rw [hne]
        rw [hbq]
        have he : (strN []).toList.isEmpty = true := heq
        clear heq hY hne hbq hit hbw hX hXP
        go_wp2
        go_ret
        exact ⟨ret_bool HF.out.symm, HBW.out⟩
end Go.Proofs.YtpffjeoiacaihaaDoor

/-
  StrKit, FnLeaf, FnLeafW.
-/
import Derived.Test.YteockpllnhjooaaGreatDoorQL02
import Derived.Test.YteockpllnhjooaaGreatDoorQL01
import Derived.Lib.BytesEntry
import Derived.Lib.Bytealg
import Derived.Lib.ConvBytes
import Derived.Lib.RuneBytes
import Derived.Lib.OthersKept
import Derived.Laws.ResultCell
import Derived.Deep.Quiet
namespace Go.Proofs.YteockpllnhjooaaGreatDoor
open Go.RowKit NumMath
set_option maxRecDepth 100000
set_option linter.unusedVariables false
set_option linter.unusedSimpArgs false

theorem ret_bool {a b : Bool} (h : a = b) : Ending.returned (.bool a) = .returned (.bool b) := by rw [h]
/-- These bytes as a string. -/
def strN (l : List Nat) : ByteArray := ⟨(l.map fun n => UInt8.ofNat n).toArray⟩
theorem strN_data (l : List Nat) : (strN l).data.toList = l.map fun n => UInt8.ofNat n := by simp [strN]
theorem strN_size (l : List Nat) : (strN l).size = l.length := by
  show (strN l).data.size = _
  simp [strN]
theorem any_str (s : ByteArray) : ∃ l : List Nat, (∀ c ∈ l, c < 256) ∧ s = strN l := by
  refine ⟨s.data.toList.map UInt8.toNat, ?_, ?_⟩
  · intro c hc
    obtain ⟨x, _, rfl⟩ := List.mem_map.1 hc
    exact x.toNat_lt
  · apply ByteArray.ext
    apply Array.toList_inj.1
    rw [strN_data, List.map_map]
    exact ((List.map_congr_left (fun x _ => by simp)).trans (List.map_id _)).symm
theorem strN_inj {a b : List Nat} (ha : ∀ c ∈ a, c < 256) (hb : ∀ c ∈ b, c < 256) (h : strN a = strN b) : a = b := by
  have h1 : (a.map fun n => UInt8.ofNat n) = b.map fun n => UInt8.ofNat n := by rw [← strN_data, ← strN_data, h]
  have h2 := congrArg (List.map UInt8.toNat) h1
  rw [List.map_map, List.map_map] at h2
  have e : ∀ l : List Nat, (∀ c ∈ l, c < 256) → l.map (UInt8.toNat ∘ fun n => UInt8.ofNat n) = l := fun l hl =>
    (List.map_congr_left (fun x hx => by have := hl x hx; simp; omega)).trans (List.map_id _)
  rwa [e a ha, e b hb] at h2
theorem strN_toList (l : List Nat) : (strN l).toList = l.map fun n => UInt8.ofNat n := by rw [Lib.toList_data, strN_data]
theorem strN_eq {a b : List Nat} (ha : ∀ c ∈ a, c < 256) (hb : ∀ c ∈ b, c < 256) : ((strN a).toList == (strN b).toList) = decide (a = b) := by
  by_cases h : a = b
  · subst h; simp
  · have : (strN a).toList ≠ (strN b).toList := fun e => h (strN_inj ha hb (by
      apply ByteArray.ext; apply Array.toList_inj.1
      rwa [Lib.toList_data, Lib.toList_data] at e))
    simp [h, this]
theorem ofNat_lt (x y : Nat) (hx : x < 256) (hy : y < 256) : (UInt8.ofNat x < UInt8.ofNat y) ↔ x < y := by
  rw [UInt8.lt_iff_toNat_lt]
  simp
  omega
theorem lex_less : ∀ a b : List Nat, (∀ c ∈ a, c < 256) → (∀ c ∈ b, c < 256) → Op.bytesLess (a.map fun n => UInt8.ofNat n) (b.map fun n => UInt8.ofNat n) = TxtMath.lexLt a b
  | [], [], _, _ => rfl
  | [], _ :: _, _, _ => rfl
  | _ :: _, [], _, _ => rfl
  | x :: a, y :: b, ha, hb => by
    have hx := ha x (by simp)
    have hy := hb y (by simp)
    have ih := lex_less a b (fun c hc => ha c (by simp [hc])) (fun c hc => hb c (by simp [hc]))
    have h1 := ofNat_lt x y hx hy
    have h2 := ofNat_lt y x hy hx
    show Op.bytesLess (UInt8.ofNat x :: a.map _) (UInt8.ofNat y :: b.map _) = _
    unfold TxtMath.lexLt
    unfold Op.bytesLess
    rw [ih]
    simp only [h1, h2]
    have h3 : (UInt8.ofNat x == UInt8.ofNat y) = decide (x = y) := by
      by_cases e : x = y
      · subst e; simp
      · have : UInt8.ofNat x ≠ UInt8.ofNat y := fun h => e (by have := congrArg UInt8.toNat h; simp at this; omega)
        simp [e, this]
    have h4 : (UInt8.ofNat x = UInt8.ofNat y) ↔ x = y := by
      have := h3
      by_cases e : x = y <;> simp_all
    rcases Nat.lt_trichotomy x y with h | h | h
    · simp [h, Nat.ne_of_lt h]
    · subst h; simp
    · simp [h, Nat.not_lt.2 (Nat.le_of_lt h), h3, h4, Nat.ne_of_gt h]
/-- An element of a string. -/
theorem wpList_index_str {ops : Array Oper} {rest : List Oper} {op : Oper} {a : Act} {w : World} {Q : Exit → Act → World → Prop} (hgd : op.guard = none) (x i : Operand) (ho : op.op = .index 9 x i)
    (l : List Nat) (k : IntKind) (j c : Nat) (hx : a.eval x = .string (strN l)) (hi : a.eval i = .int k (j : Int)) (hc : l[j]? = some c) (hb : c < 256)
    (h : wpList Tryz.prog ops Q rest (a.put op.dst (.int .u8 (c : Int))) w) : wpList Tryz.prog ops Q (op :: rest) a w := by
  refine wpList_plain hgd fun K hK => ?_
  have hj : j < l.length := (List.getElem?_eq_some_iff.1 hc).1
  have hjs : j < (strN l).size := by rw [strN_size]; exact hj
  have hrun : (Instr.index 9 (.string (strN l)) (.int k (j : Int))).run Tryz.prog w = .ok (.int .u8 (c : Int)) w := by
    rw [run_index_string w 9 (strN l) k (j : Int) Tryz.underlying9, dif_pos ⟨by omega, by rw [strN_size]; omega⟩]
    have e : (strN l)[(j : Int).toNat]'(by rw [strN_size]; simpa using hj) = UInt8.ofNat c := by
      have h1 : (strN l).data.toList[j]? = some (UInt8.ofNat c) := by rw [strN_data]; simp [hc]
      obtain ⟨h2, h3⟩ := List.getElem?_eq_some_iff.1 h1
      rw [← h3]
      simp [ByteArray.getElem_eq_getElem_data]
    rw [e]
    have : (UInt8.ofNat c).toNat = c := by simp; omega
    rw [this]
  unfold Oper.wp execOp
  simp only [ho, hx, hi, Sem.run_bind, Sem.run_pure, Result.andThen_ok, hrun]
  exact hK _ _ h

theorem strN_extract (l : List Nat) (i j : Nat) : (strN l).extract i j = strN ((l.drop i).take (j - i)) := by
  have h : ∀ m : List Nat, strN m = ByteArray.mk (m.map fun n => UInt8.ofNat n).toArray := by
    intro m; apply ByteArray.ext; apply Array.toList_inj.1; rw [strN_data]
  rw [h, h, ByteArray.extract_mk]
  simp [List.map_take, List.map_drop]
theorem strN_append (a b : List Nat) : strN a ++ strN b = strN (a ++ b) := by
  apply ByteArray.ext; apply Array.toList_inj.1
  rw [strN_data, List.map_append, ← strN_data a, ← strN_data b]
  simp
theorem run_slice_strN {w : World} (l : List Nat) (k1 k2 : IntKind) (i j : Nat) (h1 : i ≤ j) (h2 : j ≤ l.length) :
    (Instr.sliceAt 9 (.string (strN l)) (some (.int k1 (i : Int))) (some (.int k2 (j : Int))) none).run Tryz.prog w = .ok (.string (strN ((l.drop i).take (j - i)))) w := by
  have hs : ((strN l).size : Int) = l.length := by rw [strN_size]
  rw [run_sliceAt_string w 9 _ _ _ _ Tryz.underlying9, ← strN_extract]
  simp [Instr.slice, run_underlying Tryz.underlying9, Instr.sliceBounds, run_sliceBound, strN_size, h1, h2]
theorem quiet_slice {o : Oper} {a : Act} {C : World → Prop} {w : World} (x i j : Operand) (ho : o.op = .slice 9 x (some i) (some j) none) (l : List Nat) (hx : a.eval x = .string (strN l)) (k1 k2 : IntKind) (p q : Nat) (hi : a.eval i = .int k1 (p : Int)) (hj : a.eval j = .int k2 (q : Int)) (h1 : p ≤ q) (h2 : q ≤ l.length) :
    Oper.quietAt Tryz.prog o a C w (.string (strN ((l.drop p).take (q - p)))) := by
  unfold Oper.quietAt execOp
  simp only [ho, hx, Option.map, hi, hj, Sem.run_bind, Sem.run_pure, Result.andThen_ok, run_slice_strN l k1 k2 p q h1 h2]
  exact ⟨rfl, rfl⟩
theorem quiet_cat {o : Oper} {a : Act} {C : World → Prop} {w : World} (x y : Operand) (ho : o.op = .binOp .add 9 x y 9) (l m : List Nat) (hx : a.eval x = .string (strN l)) (hy : a.eval y = .string (strN m)) (h : l.length + m.length ≤ 9223372036854775807) :
    Oper.quietAt Tryz.prog o a C w (.string (strN (l ++ m))) := by
  unfold Oper.quietAt execOp
  have hr := run_string_add_sum (P := Tryz.prog) (w := w) (strN l) (strN m) (by rw [strN_size, strN_size]; exact h)
  simp only [ho, hx, hy]
  simp [go_sem, binOp_string_add, Sem.run_bind, hr, strN_append]
  exact ⟨rfl, rfl⟩
theorem run_slice_strN0 {w : World} (l : List Nat) (k2 : IntKind) (j : Nat) (h2 : j ≤ l.length) :
    (Instr.sliceAt 9 (.string (strN l)) none (some (.int k2 (j : Int))) none).run Tryz.prog w = .ok (.string (strN (l.take j))) w := by
  rw [run_sliceAt_string w 9 _ _ _ _ Tryz.underlying9]
  have e : strN (l.take j) = (strN l).extract 0 j := by rw [strN_extract]; simp
  rw [e]
  simp [Instr.slice, run_underlying Tryz.underlying9, Instr.sliceBounds, run_sliceBound, strN_size, h2]
theorem yields_slice0 {ops : Array Oper} {S : World → Prop} {op : Oper} {a : Act} (hw : Region.wanted op (yielded ops a.tmps) = true) (x j : Operand) (ho : op.op = .slice 9 x none (some j) none) (l : List Nat) (hx : a.eval x = .string (strN l)) (k2 : IntKind) (q : Nat) (hj : a.eval j = .int k2 (q : Int)) (h2 : q ≤ l.length) :
    YieldsIf Tryz.prog ops S op (.string (strN (l.take q))) a :=
  .inl ⟨hw, fun w _ => by
    unfold execOp
    simp only [ho, hx, Option.map, hj, Sem.run_bind, Sem.run_pure, Result.andThen_ok, run_slice_strN0 l k2 q h2]⟩
theorem yields_cat {ops : Array Oper} {S : World → Prop} {op : Oper} {a : Act} (hw : Region.wanted op (yielded ops a.tmps) = true) (x y : Operand) (ho : op.op = .binOp .add 9 x y 9) (l m : List Nat) (hx : a.eval x = .string (strN l)) (hy : a.eval y = .string (strN m)) (h : l.length + m.length ≤ 9223372036854775807) :
    YieldsIf Tryz.prog ops S op (.string (strN (l ++ m))) a :=
  .inl ⟨hw, fun w _ => by
    have hr := run_string_add_sum (P := Tryz.prog) (w := w) (strN l) (strN m) (by rw [strN_size, strN_size]; exact h)
    unfold execOp
    simp only [ho, hx, hy]
    simp [go_sem, binOp_string_add, Sem.run_bind, hr, strN_append]⟩
theorem yields_eql_str {ops : Array Oper} {S : World → Prop} {op : Oper} {a : Act} (hw : Region.wanted op (yielded ops a.tmps) = true) (x y : Operand) (ho : op.op = .binOp .eql 9 x y 9) (s t : ByteArray) (hx : a.eval x = .string s) (hy : a.eval y = .string t) (b : Bool) (hb : (s.toList == t.toList) = b) :
    YieldsIf Tryz.prog ops S op (.bool b) a :=
  .inl ⟨hw, fun w _ => by
    unfold execOp
    simp only [ho, hx, hy, binOp_string_eql, hb]
    rfl⟩


theorem get_strN (l : List Nat) (hb : ∀ c ∈ l, c < 256) (i : Nat) : ((strN l).get! i).toNat = l[i]?.getD 0 := by
  have e : (strN l).get! i = ((l.map fun n => UInt8.ofNat n)[i]?).getD default := by
    show (strN l).data[i]! = _
    rw [Array.getElem!_eq_getD, Array.getD_eq_getD_getElem?]
    simp [strN]
  rw [e, List.getElem?_map]
  rcases h : l[i]? with _ | c
  · rfl
  · have := hb c (List.mem_of_getElem? h)
    simp; omega
/-- What the model reads off a string. -/
theorem dec_strN (l : List Nat) (hb : ∀ c ∈ l, c < 256) (pos : Nat) (hp : pos < l.length) : Utf8.decode (strN l) pos = TxtMath.dec (l.drop pos) := by
  have g : ∀ k, ((strN l).get! (pos + k)).toNat = TxtMath.byteAt (l.drop pos) k := by
    intro k; rw [get_strN l hb]; simp [TxtMath.byteAt]
  have v : ∀ c : Nat, Utf8.valid (c : Int) = TxtMath.valid c := by
    intro c
    unfold Utf8.valid TxtMath.valid
    have h1 : decide ((0 : Int) ≤ (c : Int)) = true := by simp
    have h2 : decide ((c : Int) < 0xD800) = decide (c < 55296) := by apply decide_eq_decide.2; omega
    have h3 : decide ((0xE000 : Int) ≤ (c : Int)) = decide (57344 ≤ c) := by apply decide_eq_decide.2; omega
    have h4 : decide ((c : Int) ≤ 0x10FFFF) = decide (c ≤ 1114111) := by apply decide_eq_decide.2; omega
    rw [h1, h2, h3, h4, Bool.true_and]
  have c : ∀ k, (decide (pos + k < (strN l).size) && TxtMath.byteAt (l.drop pos) k / 64 == 2) = TxtMath.contAt (l.drop pos) k := by
    intro k
    unfold TxtMath.contAt
    rw [strN_size]
    have : decide (pos + k < l.length) = decide (k < (l.drop pos).length) := by apply decide_eq_decide.2; simp; omega
    rw [this]
  unfold Utf8.decode TxtMath.dec
  simp only [g, c, v, Utf8.runeError]
/-- A rune's bytes, as the library writes them. -/
theorem enc_lib (r : Nat) (h : TxtMath.valid r = true) : Lib.encodeRune (r : Int) = (TxtMath.enc r).map fun n => UInt8.ofNat n := by
  have hv : r < 55296 ∨ (57344 ≤ r ∧ r ≤ 1114111) := by simpa [TxtMath.valid] using h
  unfold Lib.encodeRune TxtMath.enc
  split
  · rw [Lib.encodeRuneZ_one (by omega) (by omega)]; rfl
  · split
    · rw [Lib.encodeRuneZ_two (by omega) (by omega)]
      simp only [List.map_cons, List.map_nil, Nat.toUInt8]
      congr 2
    · split
      · rw [Lib.encodeRuneZ_three (by omega)]
        simp only [List.map_cons, List.map_nil, Nat.toUInt8]
        congr 2
      · rw [Lib.encodeRuneZ_four (by omega) (by omega)]
        simp only [List.map_cons, List.map_nil, Nat.toUInt8]
        congr 2
/-- Bytes as cells. -/
def cellsN (l : List Nat) : List Value := Lib.byteCells (l.map fun n => UInt8.ofNat n)
theorem cellsN_len (l : List Nat) : (cellsN l).length = l.length := by unfold cellsN; rw [Lib.byteCells_length]; simp
theorem cellsN_append (a b : List Nat) : cellsN (a ++ b) = cellsN a ++ cellsN b := by unfold cellsN; rw [List.map_append, Lib.byteCells_append]
theorem cellsN_enc (r : Nat) (h : TxtMath.valid r = true) : Lib.runeCells (r : Int) = cellsN (TxtMath.enc r) := by
  unfold cellsN; rw [← enc_lib r h, Lib.byteCells_encodeRune]
theorem app_lt {a b : List Nat} (ha : ∀ c ∈ a, c < 256) (hb : ∀ c ∈ b, c < 256) : ∀ c ∈ a ++ b, c < 256 := by
  intro c hc
  rcases List.mem_append.1 hc with h | h
  · exact ha c h
  · exact hb c h
theorem sum_strN (a b : List Nat) (h : a.length + b.length ≤ 1000000) : ∀ w, (Op.stringOp BinOp.add (strN a) (strN b)).run Tryz.prog w = .ok (.string (strN (a ++ b))) w := by
  intro w
  rw [run_string_add_sum (P := Tryz.prog) (w := w) _ _ (by rw [strN_size, strN_size]; omega), strN_append]
/-- A string held against one that stands in the text. -/
theorem eq_lit {a : List Nat} (b : List Nat) (L : List UInt8) (hL : (b.map fun n => UInt8.ofNat n) = L) (ha : ∀ c ∈ a, c < 256) (hb : ∀ c ∈ b, c < 256) : ((strN a).toList == L) = decide (a = b) := by
  rw [← hL, ← strN_toList]; exact strN_eq ha hb
end Go.Proofs.YteockpllnhjooaaGreatDoor
namespace Go.Proofs.YteockpllnhjooaaGreatDoor
open Go.RowKit NumMath
set_option maxRecDepth 100000
set_option linter.unusedVariables false
set_option linter.unusedSimpArgs false
/-- What text.isBare asks. -/
def bareP (r : Nat) : Bool := decide (r < 32) || (decide (127 ≤ r) && decide (r ≤ 159))
theorem bare_is (r : Nat) (h : TxtMath.white r = false) : TxtMath.bare r = bareP r := by unfold TxtMath.bare bareP; rw [h]; simp
theorem low_spec (r : Nat) : let c := (65 ≤ r ∧ r ≤ 90) ∨ (192 ≤ r ∧ r ≤ 222 ∧ r ≠ 215) ∨ (913 ≤ r ∧ r ≤ 939 ∧ r ≠ 930) ∨ (1040 ≤ r ∧ r ≤ 1071)
    (c ∧ TxtMath.low r = r + 32) ∨ (¬ c ∧ (1024 ≤ r ∧ r ≤ 1039) ∧ TxtMath.low r = r + 80) ∨ (¬ c ∧ ¬ (1024 ≤ r ∧ r ≤ 1039) ∧ TxtMath.low r = r) := by
  intro c
  show (_ ∧ _) ∨ (_ ∧ _ ∧ _) ∨ (_ ∧ _ ∧ _)
  unfold TxtMath.low
  split
  · rename_i h; simp at h; left; refine ⟨?_, rfl⟩; show _ ∨ _; omega
  · rename_i h
    have hc : ¬ c := by intro hc; apply h; simp; rcases hc with hc | hc | hc | hc <;> omega
    split
    · rename_i h2; simp at h2; right; left; exact ⟨hc, h2, rfl⟩
    · rename_i h2; simp at h2; right; right; exact ⟨hc, by omega, rfl⟩

theorem letter_iff (r : Nat) : TxtMath.letter r = true ↔ (r < 128 ∧ ((97 ≤ r ∧ r ≤ 122) ∨ (65 ≤ r ∧ r ≤ 90) ∨ (48 ≤ r ∧ r ≤ 57))) ∨ (192 ≤ r ∧ r ≠ 215 ∧ r ≠ 247 ∧ r ≠ 65533 ∧ (r < 8192 ∨ 8303 < r) ∧ TxtMath.white r = false) := by
  unfold TxtMath.letter
  split
  · simp; omega
  · generalize TxtMath.white r = b
    cases b <;> simp <;> omega
theorem isWhite_any (r : Nat) (w : World) (h : r ≤ 1114111) :
    Calls Tryz.prog 51 #[.int .i32 (r : Int)] w fun e w' => e = .returned (.bool (TxtMath.white r)) ∧ w' = w := by
  go_enter Tryz.func51, Tryz.ntmps51
  go_wp2
  all_goals
    go_ret
    refine ⟨ret_bool ?_, rfl⟩
    rw [Bool.eq_iff_iff]
    simp [TxtMath.white] at *
    try omega

theorem isBare_any (r : Nat) (w : World) (h : r ≤ 1114111) :
    Calls Tryz.prog 52 #[.int .i32 (r : Int)] w fun e w' => e = .returned (.bool (bareP r)) ∧ w' = w := by
  go_enter Tryz.func52, Tryz.ntmps52
  go_wp2
  all_goals
    go_ret
    refine ⟨ret_bool ?_, rfl⟩
    rw [Bool.eq_iff_iff]
    simp [bareP] at *
    try omega

end Go.Proofs.YteockpllnhjooaaGreatDoor
namespace Go.Proofs.YteockpllnhjooaaGreatDoor
open Go.RowKit NumMath
set_option maxRecDepth 100000
set_option linter.unusedVariables false
set_option linter.unusedSimpArgs false

theorem white_any (r : Nat) (w : World) (h : r ≤ 1114111) :
    Calls Tryz.prog 63 #[.int .i64 (r : Int)] w fun e w' => e = .returned (.bool (TxtMath.white r)) ∧ w' = w := by
  go_enter Tryz.func63, Tryz.ntmps63
  go_wp2
  all_goals
    go_ret
    refine ⟨ret_bool ?_, rfl⟩
    rw [Bool.eq_iff_iff]
    simp [TxtMath.white] at *
    try omega

theorem bare_any (r : Nat) (w : World) (h : r ≤ 1114111) :
    Calls Tryz.prog 64 #[.int .i64 (r : Int)] w fun e w' => e = .returned (.bool (TxtMath.bare r)) ∧ w' = w := by
  have HW : Hid _ := white_any r w h
  go_enter Tryz.func64, Tryz.ntmps64
  go_wp2_with (go_at_call 63; refine Calls.mono HW.out ?_; rintro e w1 ⟨rfl, rfl⟩)
  all_goals go_ret
  all_goals
    refine ⟨ret_bool ?_, rfl⟩
    rw [Bool.eq_iff_iff]
    simp [TxtMath.bare] at *
    try omega
end Go.Proofs.YteockpllnhjooaaGreatDoor

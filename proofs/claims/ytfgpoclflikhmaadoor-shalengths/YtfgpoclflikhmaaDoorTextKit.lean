/-
  Strings as lists of bytes; an element of a string; the library's search for a byte and its comparison.
-/
import Derived.Test.YtfgpoclflikhmaaDoorFnShaPad
import Derived.Test.YtfgpoclflikhmaaDoorShaText
import Derived.Lib.BytesEntry
import Derived.Lib.Bytealg
import Derived.Laws.ResultCell
namespace Go.Proofs.YtfgpoclflikhmaaDoor
open Go.RowKit NumMath
set_option maxRecDepth 100000
set_option linter.unusedVariables false
set_option linter.unusedSimpArgs false

/-- These bytes as a string. -/
def strN (l : List Nat) : ByteArray := strOfNums (ints l)
theorem strN_data (l : List Nat) : (strN l).data.toList = l.map fun n => UInt8.ofNat n := by
  unfold strN
  rw [strOfNums_data]
  simp [ints]
theorem strN_size (l : List Nat) : (strN l).size = l.length := by unfold strN; rw [strOfNums_size, ints_len]
theorem any_str (s : ByteArray) : ∃ l : List Nat, (∀ c ∈ l, c < 256) ∧ s = strN l := by
  refine ⟨s.data.toList.map UInt8.toNat, ?_, ?_⟩
  · intro c hc
    obtain ⟨x, _, rfl⟩ := List.mem_map.1 hc
    exact x.toNat_lt
  · apply ByteArray.ext
    apply Array.toList_inj.1
    rw [strN_data, List.map_map]
    exact ((List.map_congr_left (fun x _ => by simp)).trans (List.map_id _)).symm
theorem strN_inj {a b : List Nat} (ha : ∀ c ∈ a, c < 256) (hb : ∀ c ∈ b, c < 256) (h : strN a = strN b) : a = b := by
  have h1 : (a.map fun n => UInt8.ofNat n) = b.map fun n => UInt8.ofNat n := by rw [← strN_data, ← strN_data, h]
  have h2 := congrArg (List.map UInt8.toNat) h1
  rw [List.map_map, List.map_map] at h2
  have e : ∀ l : List Nat, (∀ c ∈ l, c < 256) → l.map (UInt8.toNat ∘ fun n => UInt8.ofNat n) = l := fun l hl =>
    (List.map_congr_left (fun x hx => by have := hl x hx; simp; omega)).trans (List.map_id _)
  rwa [e a ha, e b hb] at h2
theorem strN_toList (l : List Nat) : (strN l).toList = l.map fun n => UInt8.ofNat n := by rw [Lib.toList_data, strN_data]
theorem strN_eq {a b : List Nat} (ha : ∀ c ∈ a, c < 256) (hb : ∀ c ∈ b, c < 256) : ((strN a).toList == (strN b).toList) = decide (a = b) := by
  by_cases h : a = b
  · subst h; simp
  · have : (strN a).toList ≠ (strN b).toList := fun e => h (strN_inj ha hb (by
      apply ByteArray.ext; apply Array.toList_inj.1
      rwa [Lib.toList_data, Lib.toList_data] at e))
    simp [h, this]
theorem ofNat_lt (x y : Nat) (hx : x < 256) (hy : y < 256) : (UInt8.ofNat x < UInt8.ofNat y) ↔ x < y := by
  rw [UInt8.lt_iff_toNat_lt]
  simp
  omega
theorem lex_less : ∀ a b : List Nat, (∀ c ∈ a, c < 256) → (∀ c ∈ b, c < 256) → Op.bytesLess (a.map fun n => UInt8.ofNat n) (b.map fun n => UInt8.ofNat n) = ShaMath.lexLt a b
  | [], [], _, _ => rfl
  | [], _ :: _, _, _ => rfl
  | _ :: _, [], _, _ => rfl
  | x :: a, y :: b, ha, hb => by
    have hx := ha x (by simp)
    have hy := hb y (by simp)
    have ih := lex_less a b (fun c hc => ha c (by simp [hc])) (fun c hc => hb c (by simp [hc]))
    have h1 := ofNat_lt x y hx hy
    have h2 := ofNat_lt y x hy hx
    show Op.bytesLess (UInt8.ofNat x :: a.map _) (UInt8.ofNat y :: b.map _) = _
    unfold ShaMath.lexLt
    unfold Op.bytesLess
    rw [ih]
    simp only [h1, h2]
    have h3 : (UInt8.ofNat x == UInt8.ofNat y) = decide (x = y) := by
      by_cases e : x = y
      · subst e; simp
      · have : UInt8.ofNat x ≠ UInt8.ofNat y := fun h => e (by have := congrArg UInt8.toNat h; simp at this; omega)
        simp [e, this]
    have h4 : (UInt8.ofNat x = UInt8.ofNat y) ↔ x = y := by
      have := h3
      by_cases e : x = y <;> simp_all
    rcases Nat.lt_trichotomy x y with h | h | h
    · simp [h]
    · subst h; simp
    · simp [h, Nat.not_lt.2 (Nat.le_of_lt h), h3, h4]
      intro e; omega
theorem lex_compare : ∀ a b : List Nat, (∀ c ∈ a, c < 256) → (∀ c ∈ b, c < 256) → decide (Lib.compareBytes (Lib.bytesOf (ints a)) (Lib.bytesOf (ints b)) < 0) = ShaMath.lexLt a b
  | [], [], _, _ => rfl
  | [], _ :: _, _, _ => rfl
  | _ :: _, [], _, _ => rfl
  | x :: a, y :: b, ha, hb => by
    have hx := ha x (by simp)
    have hy := hb y (by simp)
    have ih := lex_compare a b (fun c hc => ha c (by simp [hc])) (fun c hc => hb c (by simp [hc]))
    have h1 := ofNat_lt x y hx hy
    have h2 := ofNat_lt y x hy hx
    show decide (Lib.compareBytes (UInt8.ofNat (x : Int).toNat :: Lib.bytesOf (ints a)) (UInt8.ofNat (y : Int).toNat :: Lib.bytesOf (ints b)) < 0) = _
    unfold ShaMath.lexLt Lib.compareBytes
    rw [← ih]
    simp only [Int.toNat_natCast, h1, h2]
    by_cases hxy : x < y
    · simp [hxy]
    · by_cases hyx : y < x <;> simp [hxy, hyx]

/-- An element of a string. -/
theorem wpList_index_str {ops : Array Oper} {rest : List Oper} {op : Oper} {a : Act} {w : World} {Q : Exit → Act → World → Prop} (hgd : op.guard = none) (x i : Operand) (ho : op.op = .index 9 x i)
    (l : List Nat) (k : IntKind) (j c : Nat) (hx : a.eval x = .string (strN l)) (hi : a.eval i = .int k (j : Int)) (hc : l[j]? = some c) (hb : c < 256)
    (h : wpList Tryd.prog ops Q rest (a.put op.dst (.int .u8 (c : Int))) w) : wpList Tryd.prog ops Q (op :: rest) a w := by
  refine wpList_plain hgd fun K hK => ?_
  have hj : j < l.length := (List.getElem?_eq_some_iff.1 hc).1
  have hjs : j < (strN l).size := by rw [strN_size]; exact hj
  have hrun : (Instr.index 9 (.string (strN l)) (.int k (j : Int))).run Tryd.prog w = .ok (.int .u8 (c : Int)) w := by
    rw [run_index_string w 9 (strN l) k (j : Int) Tryd.underlying9, dif_pos ⟨by omega, by rw [strN_size]; omega⟩]
    have e : (strN l)[(j : Int).toNat]'(by rw [strN_size]; simpa using hj) = UInt8.ofNat c := by
      have h1 : (strN l).data.toList[j]? = some (UInt8.ofNat c) := by rw [strN_data]; simp [hc]
      obtain ⟨h2, h3⟩ := List.getElem?_eq_some_iff.1 h1
      rw [← h3]
      simp [ByteArray.getElem_eq_getElem_data]
    rw [e]
    have : (UInt8.ofNat c).toNat = c := by simp; omega
    rw [this]
  unfold Oper.wp execOp
  simp only [ho, hx, hi, Sem.run_bind, Sem.run_pure, Result.andThen_ok, hrun]
  exact hK _ _ h

def digitsL : List Nat := [48, 49, 50, 51, 52, 53, 54, 55, 56, 57, 97, 98, 99, 100, 101, 102]
theorem dig_str : ({ data := #[48, 49, 50, 51, 52, 53, 54, 55, 56, 57, 97, 98, 99, 100, 101, 102] } : ByteArray) = strN digitsL := by rfl
theorem dig_get (q : Nat) (h : q < 16) : digitsL[q]? = some (ShaMath.hexd q) := by
  have : ∀ q : Fin 16, digitsL[q.val]? = some (ShaMath.hexd q.val) := by decide
  exact this ⟨q, h⟩

/-- Where a byte stands among the digits. -/
def hexI (c : Nat) : Int := if ShaMath.hexv c < 16 then (ShaMath.hexv c : Int) else -1
theorem hexI_is : ∀ c : Fin 256, Lib.indexByte (digitsL.map fun n => UInt8.ofNat n) (UInt8.ofNat c.val) = hexI c.val := by decide +kernel

theorem indexByte_any (c : Nat) (w : World) (hc : c < 256) :
    Calls Tryd.prog 24 #[.string (strN digitsL), .int .u8 (c : Int)] w fun e w' => e = .returned (.int .i64 (hexI c)) ∧ w' = w := by
  have hrun : ∀ w, (callFunc 34 #[.string (strN digitsL), .int .u8 (c : Int)]).run Tryd.prog w = .ok (.value (.int .i64 (hexI c))) w := by
    intro w
    rw [run_callFunc_extern Tryd.func34 (by kernel_rfl) (by kernel_rfl) (by kernel_rfl) (e := Extern.BytealgIndexByte.indexByte) (by kernel_rfl), Lib.run_indexByteString, strN_data]
    have := hexI_is ⟨c, hc⟩
    simp only at this
    rw [show (c : Int).toNat.toUInt8 = UInt8.ofNat c from rfl, this]
    rfl
  have hin : Calls Tryd.prog 31 #[.string (strN digitsL), .int .u8 (c : Int)] w fun e w' => e = .returned (.int .i64 (hexI c)) ∧ w' = w := by
    go_enter Tryd.func31, Tryd.ntmps31
    go_wp2
    go_ret
    exact ⟨rfl, rfl⟩
  clear hrun
  have HI : Hid _ := hin
  clear hin
  go_enter Tryd.func24, Tryd.ntmps24
  go_wp2_with fail
  refine Calls.mono HI.out ?_
  rintro e w1 ⟨rfl, rfl⟩
  go_wp2
  go_ret
  exact ⟨rfl, rfl⟩

theorem run_compareRows {w : World} (b1 o1 c1 b2 o2 c2 : Nat) (xs ys : List Int) (h1 : ∀ i, i < xs.length → w.cell? ⟨b1, o1 + i, none⟩ = some (.int .u8 (xs.getD i 0))) (h2 : ∀ i, i < ys.length → w.cell? ⟨b2, o2 + i, none⟩ = some (.int .u8 (ys.getD i 0))) :
    (Extern.BytealgCompare.compare #[.slice (some ⟨b1, o1, none⟩) xs.length c1, .slice (some ⟨b2, o2, none⟩) ys.length c2]).run Tryd.prog w = .ok (.int .i64 (Lib.compareBytes (Lib.bytesOf xs) (Lib.bytesOf ys))) w := by
  have l1 := Lib.run_loadBytesX (P := Tryd.prog) w xs ⟨b1, o1, none⟩ .empty (fun j x hj => by
    have hjl : j < xs.length := (List.getElem?_eq_some_iff.1 hj).1
    rw [Addr.add_mid, h1 j hjl, List.getD_eq_getElem?_getD, hj]; rfl)
  have l2 := Lib.run_loadBytesX (P := Tryd.prog) w ys ⟨b2, o2, none⟩ .empty (fun j x hj => by
    have hjl : j < ys.length := (List.getElem?_eq_some_iff.1 hj).1
    rw [Addr.add_mid, h2 j hjl, List.getD_eq_getElem?_getD, hj]; rfl)
  have he : ∀ l : List UInt8, (⟨ByteArray.empty.data ++ l.toArray⟩ : ByteArray) = ⟨l.toArray⟩ := by
    intro l
    apply ByteArray.ext
    show (#[] : Array UInt8) ++ l.toArray = l.toArray
    simp
  rw [he] at l1 l2
  change Sem.run Tryd.prog (do pure (goInt (Extern.BytealgCompare.cmp (← Extern.Bytes.loadBytes ⟨b1, o1, none⟩ xs.length .empty) (← Extern.Bytes.loadBytes ⟨b2, o2, none⟩ ys.length .empty)))) w = _
  simp only [Sem.run_bind, l1, l2, Result.andThen, Sem.run_pure]
  rw [Lib.cmp_eq]
  rfl

theorem compare_any (g1 t1 g2 t2 : Nat) (xs ys : List Nat) (w : World) (h1 : Arr w g1 t1 (u8v xs)) (h2 : Arr w g2 t2 (u8v ys)) :
    Calls Tryd.prog 26 #[.slice (some ⟨g1, 0, none⟩) xs.length xs.length, .slice (some ⟨g2, 0, none⟩) ys.length ys.length] w fun e w' => e = .returned (.int .i64 (Lib.compareBytes (Lib.bytesOf (ints xs)) (Lib.bytesOf (ints ys)))) ∧ w' = w := by
  have hrun : (callFunc 32 #[.slice (some ⟨g1, 0, none⟩) xs.length xs.length, .slice (some ⟨g2, 0, none⟩) ys.length ys.length]).run Tryd.prog w = .ok (.value (.int .i64 (Lib.compareBytes (Lib.bytesOf (ints xs)) (Lib.bytesOf (ints ys))))) w := by
    have hc := run_compareRows (w := w) g1 0 xs.length g2 0 ys.length (ints xs) (ints ys) (by
      intro i hi
      have hi' : i < xs.length := by rwa [ints_len] at hi
      rw [Nat.zero_add, h1.cell8 i hi']; simp [ints, hi']) (by
      intro i hi
      have hi' : i < ys.length := by rwa [ints_len] at hi
      rw [Nat.zero_add, h2.cell8 i hi']; simp [ints, hi'])
    rw [ints_len, ints_len] at hc
    rw [run_callFunc_extern Tryd.func32 (by kernel_rfl) (by kernel_rfl) (by kernel_rfl) (e := Extern.BytealgCompare.compare) (by kernel_rfl), hc]
    rfl
  clear h1 h2
  generalize Lib.compareBytes (Lib.bytesOf (ints xs)) (Lib.bytesOf (ints ys)) = r at *
  go_enter Tryd.func26, Tryd.ntmps26
  go_wp2
  go_ret
  exact ⟨rfl, rfl⟩

end Go.Proofs.YtfgpoclflikhmaaDoor

/-
  BufKit, SeatAddr.
-/
import Derived.Test.YteockpllnhjooaaGreatDoorQL06
import Derived.Test.YteockpllnhjooaaGreatDoorQL11
import Derived.LoopTactic
import Derived.Test.YteockpllnhjooaaGreatDoorQL01
namespace Go.Proofs.YteockpllnhjooaaGreatDoor
open Go.RowKit NumMath
set_option maxRecDepth 100000
set_option linter.unusedVariables false
set_option linter.unusedSimpArgs false

def ints8 (l : List Nat) : List Int := l.map fun n : Nat => (n : Int)
theorem ints8_len (l : List Nat) : (ints8 l).length = l.length := by simp [ints8]
theorem strOf_ints8 (l : List Nat) : strOfNums (ints8 l) = strN l := by
  apply ByteArray.ext; apply Array.toList_inj.1
  rw [strOfNums_data, strN_data, ints8, List.map_map]
  rfl
/-- Block g begins with the bytes l, which may be changed. -/
def Buf (w : World) (g : Nat) (l : List Nat) : Prop := (∀ j c : Nat, l[j]? = some c → w.cell? ⟨g, j, none⟩ = some (.int .u8 (c : Int))) ∧ ∀ j, j < l.length → w.frozen? ⟨g, j, none⟩ = false
theorem Buf.new (w : World) (l : List Nat) (hl : ∀ c ∈ l, c < 256) : Buf (Lib.bytesWorld w 5 (strN l)) w.heap.size l := by
  have hd : (strN l).data.size = l.length := strN_size l
  refine ⟨fun j c hc => ?_, fun j hj => ?_⟩
  · have hj : j < l.length := (List.getElem?_eq_some_iff.1 hc).1
    rw [Lib.bytesWorld_cell w 5 (strN l) j (by rw [strN_size]; exact hj), strN_data]
    have hb := hl c (List.mem_of_getElem? hc)
    simp [List.getD, hc]
    omega
  · simp only [World.frozen?, Lib.bytesWorld_at_new]
    have hcs : l.length ≤ (Lib.bytesCells w 5 (strN l)).size := by unfold Lib.bytesCells; simp only [Array.size_append, Array.size_map]; omega
    simp
    omega
theorem bytes_below (w : World) (l : List Nat) : Below w.heap.size w (Lib.bytesWorld w 5 (strN l)) :=
  ⟨rfl, rfl, rfl, by rw [Lib.bytesWorld_size]; omega, fun k hk => Lib.bytesWorld_at_old w 5 (strN l) k hk⟩
theorem conv_bytes (w : World) (l : List Nat) : (convert 9 48 (.string (strN l))).run Tryz.prog w = .ok (.slice (some ⟨w.heap.size, 0, none⟩) l.length (grownCap w l.length 0 5)) (Lib.bytesWorld w 5 (strN l)) := by
  have := Lib.run_convert_string_bytes w 9 48 5 (strN l) Tryz.underlying9 Tryz.underlying48 Tryz.underlying5
  rw [strN_size] at this
  exact this
theorem Buf.set {w : World} {g : Nat} {l : List Nat} (h : Buf w g l) (j c : Nat) (hj : j < l.length) : Buf (w.setCell ⟨g, j, none⟩ (.int .u8 (c : Int))) g (l.set j c) := by
  refine ⟨fun i d hd => ?_, fun i hi => ?_⟩
  · by_cases e : i = j
    · subst e
      rw [World.cell?_setCell_same _ _ _ (h.1 i l[i] (List.getElem?_eq_getElem hj))]
      simp [hj] at hd
      rw [hd]
    · rw [World.cell?_setCell_other _ _ _ _ (by intro h; injection h; omega)]
      rw [List.getElem?_set_ne (Ne.symm e)] at hd
      exact h.1 i d hd
  · rw [World.frozen?_setCell]
    exact h.2 i (by simpa using hi)
theorem Buf.row {w : World} {g : Nat} {l : List Nat} (h : Buf w g l) : Row .u8 w (some ⟨g, 0, none⟩) (ints8 l) := by
  refine .inr ⟨g, 0, rfl, fun i hi => ?_⟩
  rw [ints8_len] at hi
  rw [Nat.zero_add, h.1 i l[i] (List.getElem?_eq_getElem hi)]
  simp [ints8, hi]
theorem Buf.str {w : World} {g : Nat} {l : List Nat} (h : Buf w g l) {n : Nat} (hn : n = l.length) (cap : Nat) : (convert 48 9 (.slice (some ⟨g, 0, none⟩) n cap)).run Tryz.prog w = .ok (.string (strN l)) w := by
  have := row_string (cap := cap) h.row
  rw [strOf_ints8, ints8_len, ← hn] at this
  exact this
theorem take_set (l : List Nat) (f : Nat → Nat) (k c : Nat) (hk : l[k]? = some c) : ((l.take k).map f ++ l.drop k).set k (f c) = (l.take (k + 1)).map f ++ l.drop (k + 1) := by
  obtain ⟨hkl, hc⟩ := List.getElem?_eq_some_iff.1 hk
  rw [List.drop_eq_getElem_cons hkl, List.take_succ_eq_append_getElem hkl, hc, List.set_append_right _ _ (by simp; omega)]
  have : k - (List.map f (List.take k l)).length = 0 := by simp; omega
  rw [this]
  simp
theorem take_keep (l : List Nat) (f : Nat → Nat) (k c : Nat) (hk : l[k]? = some c) (hf : f c = c) : (l.take k).map f ++ l.drop k = (l.take (k + 1)).map f ++ l.drop (k + 1) := by
  obtain ⟨hkl, hc⟩ := List.getElem?_eq_some_iff.1 hk
  rw [List.drop_eq_getElem_cons hkl, List.take_succ_eq_append_getElem hkl, hc]
  simp [hf]
theorem take_at (l : List Nat) (f : Nat → Nat) (k c : Nat) (hk : l[k]? = some c) : ((l.take k).map f ++ l.drop k)[k]? = some c := by
  obtain ⟨hkl, hc⟩ := List.getElem?_eq_some_iff.1 hk
  rw [List.getElem?_append_right (by simp; omega)]
  have : k - (List.map f (List.take k l)).length = 0 := by simp; omega
  rw [this, List.drop_eq_getElem_cons hkl, hc]
  simp
theorem take_len (l : List Nat) (f : Nat → Nat) (k : Nat) : ((l.take k).map f ++ l.drop k).length = l.length := by simp; omega
end Go.Proofs.YteockpllnhjooaaGreatDoor
namespace Go.Proofs.YteockpllnhjooaaGreatDoor
open Go.RowKit NumMath
open AddrMath (parse right hostOf)
set_option maxRecDepth 100000
set_option linter.unusedVariables false
set_option linter.unusedSimpArgs false

def addrs : List (List Nat) := [[104, 116, 116, 112, 58, 47, 47, 97, 46, 98, 47], [104, 116, 116, 112, 115, 58, 47, 47, 110, 101, 119, 115, 46, 101, 120, 97, 109, 112, 108, 101, 47, 102, 101, 101, 100], [104, 116, 116, 112, 58, 47, 47, 97, 46, 98, 58, 56, 48, 56, 48, 47, 120, 63, 121, 61, 49], [104, 116, 116, 112, 115, 58, 47, 47, 99, 47, 37, 67, 51, 37, 66, 67], [104, 116, 116, 112, 58, 47, 47, 97, 46, 98, 47, 122, 47], [104, 116, 116, 112, 115, 58, 47, 47, 110, 101, 119, 115, 46, 101, 120, 97, 109, 112, 108, 101, 47]]
/-- The address of a number. -/
def seatA5 (k : Nat) : List Nat := addrs[k % 6]?.getD []
theorem seatA5_mem (k : Nat) : seatA5 k ∈ addrs := by
  unfold seatA5
  have : k % 6 < addrs.length := by show k % 6 < 6; omega
  rw [List.getElem?_eq_getElem this]
  exact List.getElem_mem this
theorem addrs_lt : ∀ a ∈ addrs, (∀ c ∈ a, c < 256) ∧ a.length ≤ 25 ∧ 9 ≤ a.length := by decide
theorem txt_cell (w : World) (T : List (List Nat)) (j : Nat) (hj : j < T.length) : (w.alloc (.cells (sv T).toArray 9)).cell? ⟨w.heap.size, j, none⟩ = some (.string (strN (T[j]?.getD []))) := by
  simp [sv, hj]

set_option maxRecDepth 100000 in
theorem seatAddr_any (k : Nat) (w : World) (hk : k < 256) :
    Calls Tryz.prog 23 #[.int .u8 (k : Int)] w fun e w' => e = .returned (.string (strN (seatA5 k))) ∧ Below w.heap.size w w' := by
  have hcell := txt_cell w addrs (k % 6) (by show k % 6 < 6; omega)
  have HA : Hid (seatA5 k = addrs[k % 6]?.getD []) := rfl
  have hsv : (sv addrs).toArray = #[.string ⟨#[104, 116, 116, 112, 58, 47, 47, 97, 46, 98, 47]⟩, .string ⟨#[104, 116, 116, 112, 115, 58, 47, 47, 110, 101, 119, 115, 46, 101, 120, 97, 109, 112, 108, 101, 47, 102, 101, 101, 100]⟩, .string ⟨#[104, 116, 116, 112, 58, 47, 47, 97, 46, 98, 58, 56, 48, 56, 48, 47, 120, 63, 121, 61, 49]⟩, .string ⟨#[104, 116, 116, 112, 115, 58, 47, 47, 99, 47, 37, 67, 51, 37, 66, 67]⟩, .string ⟨#[104, 116, 116, 112, 58, 47, 47, 97, 46, 98, 47, 122, 47]⟩, .string ⟨#[104, 116, 116, 112, 115, 58, 47, 47, 110, 101, 119, 115, 46, 101, 120, 97, 109, 112, 108, 101, 47]⟩] := rfl
  rw [hsv, ← HA.out] at hcell
  clear hsv
  obtain ⟨q, hq, hqe⟩ : ∃ q : Nat, (k : Int) % 6 = (q : Int) ∧ q = k % 6 := ⟨k % 6, by omega, rfl⟩
  have hqT : (k : Int).tmod 6 = (q : Int) := by rw [Int.tmod_eq_emod_of_nonneg (by omega)]; exact hq
  rw [← hqe] at hcell
  have hq6 : q < 6 := by omega
  clear hqe
  generalize seatA5 k = A at *
  go_enter Tryz.func23, Tryz.ntmps23
  go_wp2
  go_ret
  exact ⟨rfl, (Below.refl _ _).alloc (Nat.le_refl _) _⟩
end Go.Proofs.YteockpllnhjooaaGreatDoor

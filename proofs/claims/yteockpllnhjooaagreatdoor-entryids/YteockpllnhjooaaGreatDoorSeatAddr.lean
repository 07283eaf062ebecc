/-
  Walk of newsreelseat.Addr.
-/
import Derived.Test.YteockpllnhjooaaGreatDoorValKit
import Derived.Test.YteockpllnhjooaaGreatDoorAddrMath
import Derived.Test.YteockpllnhjooaaGreatDoorBufKit
namespace Go.Proofs.YteockpllnhjooaaGreatDoor
open Go.RowKit NumMath
open AddrMath (parse right hostOf)
set_option maxRecDepth 100000
set_option linter.unusedVariables false
set_option linter.unusedSimpArgs false

def addrs : List (List Nat) := [[104, 116, 116, 112, 58, 47, 47, 97, 46, 98, 47], [104, 116, 116, 112, 115, 58, 47, 47, 110, 101, 119, 115, 46, 101, 120, 97, 109, 112, 108, 101, 47, 102, 101, 101, 100], [104, 116, 116, 112, 58, 47, 47, 97, 46, 98, 58, 56, 48, 56, 48, 47, 120, 63, 121, 61, 49], [104, 116, 116, 112, 115, 58, 47, 47, 99, 47, 37, 67, 51, 37, 66, 67], [104, 116, 116, 112, 58, 47, 47, 97, 46, 98, 47, 122, 47], [104, 116, 116, 112, 115, 58, 47, 47, 110, 101, 119, 115, 46, 101, 120, 97, 109, 112, 108, 101, 47]]
/-- The address of a number. -/
def seatA5 (k : Nat) : List Nat := addrs[k % 6]?.getD []
theorem seatA5_mem (k : Nat) : seatA5 k ∈ addrs := by
  unfold seatA5
  have : k % 6 < addrs.length := by show k % 6 < 6; omega
  rw [List.getElem?_eq_getElem this]
  exact List.getElem_mem this
theorem addrs_lt : ∀ a ∈ addrs, (∀ c ∈ a, c < 256) ∧ a.length ≤ 25 ∧ 9 ≤ a.length := by decide
theorem txt_cell (w : World) (T : List (List Nat)) (j : Nat) (hj : j < T.length) : (w.alloc (.cells (sv T).toArray 9)).cell? ⟨w.heap.size, j, none⟩ = some (.string (strN (T[j]?.getD []))) := by
  simp [sv, hj]

set_option maxRecDepth 100000 in
theorem seatAddr_any (k : Nat) (w : World) (hk : k < 256) :
    Calls Tryz.prog 23 #[.int .u8 (k : Int)] w fun e w' => e = .returned (.string (strN (seatA5 k))) ∧ Below w.heap.size w w' := by
  have hcell := txt_cell w addrs (k % 6) (by show k % 6 < 6; omega)
  have HA : Hid (seatA5 k = addrs[k % 6]?.getD []) := rfl
  have hsv : (sv addrs).toArray = #[.string ⟨#[104, 116, 116, 112, 58, 47, 47, 97, 46, 98, 47]⟩, .string ⟨#[104, 116, 116, 112, 115, 58, 47, 47, 110, 101, 119, 115, 46, 101, 120, 97, 109, 112, 108, 101, 47, 102, 101, 101, 100]⟩, .string ⟨#[104, 116, 116, 112, 58, 47, 47, 97, 46, 98, 58, 56, 48, 56, 48, 47, 120, 63, 121, 61, 49]⟩, .string ⟨#[104, 116, 116, 112, 115, 58, 47, 47, 99, 47, 37, 67, 51, 37, 66, 67]⟩, .string ⟨#[104, 116, 116, 112, 58, 47, 47, 97, 46, 98, 47, 122, 47]⟩, .string ⟨#[104, 116, 116, 112, 115, 58, 47, 47, 110, 101, 119, 115, 46, 101, 120, 97, 109, 112, 108, 101, 47]⟩] := rfl
  rw [hsv, ← HA.out] at hcell
  clear hsv
  obtain ⟨q, hq, hqe⟩ : ∃ q : Nat, (k : Int) % 6 = (q : Int) ∧ q = k % 6 := ⟨k % 6, by omega, rfl⟩
  have hqT : (k : Int).tmod 6 = (q : Int) := by rw [Int.tmod_eq_emod_of_nonneg (by omega)]; exact hq
  rw [← hqe] at hcell
  have hq6 : q < 6 := by omega
  clear hqe
  generalize seatA5 k = A at *
  go_enter Tryz.func23, Tryz.ntmps23
  go_wp2
  go_ret
  exact ⟨rfl, (Below.refl _ _).alloc (Nat.le_refl _) _⟩
end Go.Proofs.YteockpllnhjooaaGreatDoor

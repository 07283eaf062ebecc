/-
  Walk of newsreellaw5.AddrBytes.
-/
import Derived.Test.YtmdpakkldapciaaDoorFnRefH
namespace Go.Proofs.YtmdpakkldapciaaDoor
open Go.RowKit NumMath
open AddrMath (parse plain meant escape hexD)
set_option maxRecDepth 100000
set_option linter.unusedVariables false
set_option linter.unusedSimpArgs false

def hdQ (q : Bool) : List Nat := if q then [104, 116, 116, 112, 58, 47, 47, 97, 46, 98, 47, 120, 63] else [104, 116, 116, 112, 58, 47, 47, 97, 46, 98, 47, 120]
def hexS (n : Nat) : Nat := if n < 10 then 48 + n else 87 + n
def saidL (small : Bool) (b : Nat) : List Nat := if small then [37, hexS (b / 16), hexS (b % 16)] else [37, hexD (b / 16), hexD (b % 16)]
set_option maxRecDepth 100000 in
theorem bytes_math : ∀ q small : Bool, ∀ b < 256, parse (hdQ q ++ (saidL small b ++ [121])) = (hdQ q ++ (meant b ++ [121]), 0) := by decide +kernel
def digitsS : List Nat := [48, 49, 50, 51, 52, 53, 54, 55, 56, 57, 97, 98, 99, 100, 101, 102]
theorem digitsS_at : ∀ p : Fin 16, (digitsS.drop p.val).take (p.val + 1 - p.val) = [hexS p.val] := by decide
theorem hexS_lt : ∀ p : Fin 16, hexS p.val < 256 ∧ hexD p.val < 256 := by decide
/-- The byte's class, by what the law asks of it. -/
theorem byte_class (b : Nat) (h : b < 256) : ∃ (x97 x122 x65 x90 x48 x57 x45 x46 x95 x126 : Bool), decide ((97 : Int) ≤ (b : Int)) = x97 ∧ decide ((b : Int) ≤ 122) = x122 ∧ decide ((65 : Int) ≤ (b : Int)) = x65 ∧ decide ((b : Int) ≤ 90) = x90 ∧ decide ((48 : Int) ≤ (b : Int)) = x48 ∧ decide ((b : Int) ≤ 57) = x57 ∧ ((b : Int) == 45) = x45 ∧ ((b : Int) == 46) = x46 ∧ ((b : Int) == 95) = x95 ∧ ((b : Int) == 126) = x126 ∧ plain b = ((x97 && x122) || (x65 && x90) || (x48 && x57) || x45 || x46 || x95 || x126) ∧
    ((x97, x122, x65, x90, x48, x57, x45, x46, x95, x126) ∈ ([(false, true, false, true, false, true, false, false, false, false), (false, true, false, true, false, true, true, false, false, false), (false, true, false, true, false, true, false, true, false, false), (false, true, false, true, true, true, false, false, false, false), (false, true, false, true, true, false, false, false, false, false), (false, true, true, true, true, false, false, false, false, false), (false, true, true, false, true, false, false, false, false, false), (false, true, true, false, true, false, false, false, true, false), (true, true, true, false, true, false, false, false, false, false), (true, false, true, false, true, false, false, false, false, false), (true, false, true, false, true, false, false, false, false, true)] : List (Bool × Bool × Bool × Bool × Bool × Bool × Bool × Bool × Bool × Bool))) := by
  have key : ∀ b : Fin 256, (((decide ((97 : Int) ≤ (b.val : Int)), decide ((b.val : Int) ≤ 122), decide ((65 : Int) ≤ (b.val : Int)), decide ((b.val : Int) ≤ 90), decide ((48 : Int) ≤ (b.val : Int)), decide ((b.val : Int) ≤ 57), ((b.val : Int) == 45), ((b.val : Int) == 46), ((b.val : Int) == 95), ((b.val : Int) == 126)) ∈ ([(false, true, false, true, false, true, false, false, false, false), (false, true, false, true, false, true, true, false, false, false), (false, true, false, true, false, true, false, true, false, false), (false, true, false, true, true, true, false, false, false, false), (false, true, false, true, true, false, false, false, false, false), (false, true, true, true, true, false, false, false, false, false), (false, true, true, false, true, false, false, false, false, false), (false, true, true, false, true, false, false, false, true, false), (true, true, true, false, true, false, false, false, false, false), (true, false, true, false, true, false, false, false, false, false), (true, false, true, false, true, false, false, false, false, true)] : List (Bool × Bool × Bool × Bool × Bool × Bool × Bool × Bool × Bool × Bool))) ∧ plain b.val = ((decide ((97 : Int) ≤ (b.val : Int)) && decide ((b.val : Int) ≤ 122)) || (decide ((65 : Int) ≤ (b.val : Int)) && decide ((b.val : Int) ≤ 90)) || (decide ((48 : Int) ≤ (b.val : Int)) && decide ((b.val : Int) ≤ 57)) || ((b.val : Int) == 45) || ((b.val : Int) == 46) || ((b.val : Int) == 95) || ((b.val : Int) == 126))) := by decide +kernel
  have := key ⟨b, h⟩
  exact ⟨_, _, _, _, _, _, _, _, _, _, rfl, rfl, rfl, rfl, rfl, rfl, rfl, rfl, rfl, rfl, this.2, this.1⟩
end Go.Proofs.YtmdpakkldapciaaDoor

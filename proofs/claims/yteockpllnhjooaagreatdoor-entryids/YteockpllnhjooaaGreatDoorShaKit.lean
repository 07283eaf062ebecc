/-
  Arrays in memory: what the digest's functions want of them.
-/
import Derived.Test.YteockpllnhjooaaGreatDoorArrKit
import Derived.Test.YteockpllnhjooaaGreatDoorFnShaRot
namespace Go.Proofs.YteockpllnhjooaaGreatDoor
open Go.RowKit NumMath
set_option maxRecDepth 100000
set_option linter.unusedVariables false
set_option linter.unusedSimpArgs false

theorem zero47 : (Tryz.prog.info? 113).map (fun i => (i.zero, i.size)) = some (some (.agg (u32s (List.replicate 8 0)).toArray), 8) := by kernel_rfl
theorem zero58 : (Tryz.prog.info? 131).map (fun i => (i.zero, i.size)) = some (some (.agg (u32s (List.replicate 64 0)).toArray), 64) := by kernel_rfl
theorem zero49 : (Tryz.prog.info? 116).map (fun i => (i.zero, i.size)) = some (some (.agg (u8v (List.replicate 64 0)).toArray), 64) := by kernel_rfl
theorem zero26 : (Tryz.prog.info? 33).map (fun i => (i.zero, i.size)) = some (some (.agg (u8v (List.replicate 32 0)).toArray), 32) := by kernel_rfl

theorem size5 : (Tryz.prog.info? 5).map (fun x => x.size) = some 1 := by kernel_rfl
theorem size46 : (Tryz.prog.info? 112).map (fun x => x.size) = some 1 := by kernel_rfl
theorem size49 : (Tryz.prog.info? 116).map (·.size) = some 64 := by kernel_rfl
theorem size58 : (Tryz.prog.info? 131).map (·.size) = some 64 := by kernel_rfl
theorem size47 : (Tryz.prog.info? 113).map (·.size) = some 8 := by kernel_rfl
theorem size26 : (Tryz.prog.info? 33).map (·.size) = some 32 := by kernel_rfl
theorem or8 (x c : Nat) (hx : x < 16777216) (hc : c < 256) : bits .or .u32 ((x : Int) * 256) (c : Int) = ((x * 256 + c : Nat) : Int) := by
  rw [show (x : Int) * 256 = ((x * 256 : Nat) : Int) by simp, u32_or_nat _ _ (by omega) (by omega)]
  have := Nat.two_pow_add_eq_or_of_lt (i := 8) (by omega : c < 2 ^ 8) x
  rw [Nat.mul_comm x 256]
  exact congrArg _ this.symm

theorem wrap32 (n : Int) : IntKind.u32.wrap n = n % 4294967296 := by simp [IntKind.wrap, IntKind.bits, IntKind.signed]
theorem div_lt {x : Nat} (n : Nat) (h : x < 4294967296) : x / n < 4294967296 := Nat.lt_of_le_of_lt (Nat.div_le_self _ _) h
theorem small0_bits (x : Nat) (h : x < 4294967296) : bits .xor .u32 (bits .xor .u32 (ShaMath.rotr x 7 : Nat) (ShaMath.rotr x 18 : Nat)) ((x : Int) / 8) = ((ShaMath.small0 x : Nat) : Int) := by
  rw [u32_xor_nat _ _ (rotr_lt x 7 h) (rotr_lt x 18 h), show ((x : Int) / 8) = ((x / 2 ^ 3 : Nat) : Int) by simp, u32_xor_nat _ _ (xor_lt32 (rotr_lt x 7 h) (rotr_lt x 18 h)) (div_lt _ h)]
  rfl
theorem small1_bits (x : Nat) (h : x < 4294967296) : bits .xor .u32 (bits .xor .u32 (ShaMath.rotr x 17 : Nat) (ShaMath.rotr x 19 : Nat)) ((x : Int) / 1024) = ((ShaMath.small1 x : Nat) : Int) := by
  rw [u32_xor_nat _ _ (rotr_lt x 17 h) (rotr_lt x 19 h), show ((x : Int) / 1024) = ((x / 2 ^ 10 : Nat) : Int) by simp, u32_xor_nat _ _ (xor_lt32 (rotr_lt x 17 h) (rotr_lt x 19 h)) (div_lt _ h)]
  rfl
theorem sched_val (p16 p15 p7 p2 : Nat) (b15 : p15 < 4294967296) (b2 : p2 < 4294967296) :
    IntKind.u32.wrap (IntKind.u32.wrap (IntKind.u32.wrap ((p16 : Int) + p7) + bits .xor .u32 (bits .xor .u32 (ShaMath.rotr p15 7 : Nat) (ShaMath.rotr p15 18 : Nat)) ((p15 : Int) / 8)) + bits .xor .u32 (bits .xor .u32 (ShaMath.rotr p2 17 : Nat) (ShaMath.rotr p2 19 : Nat)) ((p2 : Int) / 1024))
      = (((p16 + ShaMath.small0 p15 + p7 + ShaMath.small1 p2) % 4294967296 : Nat) : Int) := by
  rw [small0_bits _ b15, small1_bits _ b2, wrap32, wrap32, wrap32]
  omega
theorem sched_val' (p16 p15 p7 p2 : Nat) (b15 : p15 < 4294967296) (b2 : p2 < 4294967296) :
    IntKind.u32.wrap (IntKind.u32.wrap (IntKind.u32.wrap ((p16 : Int) + bits .xor .u32 (bits .xor .u32 (ShaMath.rotr p15 7 : Nat) (ShaMath.rotr p15 18 : Nat)) ((p15 : Int) / 8)) + p7) + bits .xor .u32 (bits .xor .u32 (ShaMath.rotr p2 17 : Nat) (ShaMath.rotr p2 19 : Nat)) ((p2 : Int) / 1024))
      = (((p16 + ShaMath.small0 p15 + p7 + ShaMath.small1 p2) % 4294967296 : Nat) : Int) := by
  rw [small0_bits _ b15, small1_bits _ b2, wrap32, wrap32, wrap32]
  omega

end Go.Proofs.YteockpllnhjooaaGreatDoor

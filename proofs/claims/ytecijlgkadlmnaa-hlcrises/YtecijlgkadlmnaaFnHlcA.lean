/-
  Walks of hlc.isPhys, hlc.New, Last, own, isAhead.
-/
import Derived.Test.YtecijlgkadlmnaaHlcKit
import Derived.Test.YtecijlgkadlmnaaFnStF
namespace Go.Proofs.Ytecijlgkadlmnaa
open Go.RowKit NumMath
open StMath (St)
open HlcMath (Ck)
set_option maxRecDepth 100000
set_option linter.unusedVariables false
set_option linter.unusedSimpArgs false

theorem phys_cases (n : Int) : (n < 0 ∧ Hid (HlcMath.isPhys n = false)) ∨ ((0 ≤ n ∧ n ≤ 281474976710655) ∧ Hid (HlcMath.isPhys n = true)) ∨ ((0 ≤ n ∧ 281474976710655 < n) ∧ Hid (HlcMath.isPhys n = false)) := by
  unfold Hid
  rw [HlcMath.isPhys_no, HlcMath.isPhys_iff]
  omega
theorem isPhys_any (n : Int) (w : World) : Calls Try.prog 21 #[.int .i64 n] w fun e w' => e = .returned (.bool (HlcMath.isPhys n)) ∧ w' = w := by
  rcases phys_cases n with ⟨h, H⟩ | ⟨⟨h, h1⟩, H⟩ | ⟨⟨h, h1⟩, H⟩
  all_goals
    go_enter Try.func21, Try.ntmps21
    go_wp2
    go_ret
    rw [H.out]
    first
      | exact ⟨rfl, rfl⟩
      | exact ⟨congrArg (fun b => Ending.returned (.bool b)) (decide_eq_true h1), rfl⟩
      | exact ⟨congrArg (fun b => Ending.returned (.bool b)) (decide_eq_false (by omega)), rfl⟩
theorem last_any (g : Nat) (c : Ck) (w : World) (hc : CkAt w g c) : Calls Try.prog 18 #[.pointer (some ⟨g, 0, none⟩)] w fun e w' => e = .returned (stV c.s) ∧ Below w.heap.size w w' := by
  have HA0 : Hid (StAt (w.alloc (.cells #[.int .i64 0, .int .i64 0, .int .i64 0] 32)) w.heap.size StMath.zero) := StAt.new w StMath.zero rfl
  have HB0 : Hid (Below w.heap.size w (w.alloc (.cells #[.int .i64 0, .int .i64 0, .int .i64 0] 32))) := (Below.refl _ _).alloc (Nat.le_refl _) _
  have HC0 : Hid ((w.alloc (.cells #[.int .i64 0, .int .i64 0, .int .i64 0] 32)).rangeAt g 0 (stL c.s)) := (hc.alloc _).range
  go_enter Try.func18, Try.ntmps18
  go_wp2_with (first
    | refine wpList_load_mid rfl 32 (.tmp 5) rfl g 0 rfl (stL c.s) _ HC0.out Try.underlying32 rfl sizeSt ?_
    | refine wpList_store_st rfl (.tmp 2) (.tmp 6) rfl w.heap.size StMath.zero c.s rfl rfl HA0.out ?_)
  exact ret_st1 w.heap.size c.s rfl rfl (StAt.row HA0.out) rfl ⟨rfl, below_setRow HB0.out (Nat.le_refl _) _⟩
theorem own_any (g : Nat) (c : Ck) (p l : Int) (w : World) (hc : CkAt w g c) : Calls Try.prog 28 #[.pointer (some ⟨g, 0, none⟩), .int .i64 p, .int .i64 l] w fun e w' => e = .returned (stV ⟨p, l, c.s.r⟩) ∧ Below w.heap.size w w' := by
  have HA0 : Hid (StAt (w.alloc (.cells #[.int .i64 0, .int .i64 0, .int .i64 0] 32)) w.heap.size StMath.zero) := StAt.new w StMath.zero rfl
  have HB0 : Hid (Below w.heap.size w (w.alloc (.cells #[.int .i64 0, .int .i64 0, .int .i64 0] 32))) := (Below.refl _ _).alloc (Nat.le_refl _) _
  obtain ⟨_, _, c2, _, _⟩ := (hc.alloc (.cells #[.int .i64 0, .int .i64 0, .int .i64 0] 32)).cells
  go_enter Try.func28, Try.ntmps28
  go_wp2_with (refine wpList_store_st rfl (.tmp 6) (.tmp 14) rfl w.heap.size StMath.zero ⟨p, l, c.s.r⟩ rfl rfl HA0.out ?_)
  exact ret_st1 w.heap.size ⟨p, l, c.s.r⟩ rfl rfl (StAt.row HA0.out) rfl ⟨rfl, below_setRow HB0.out (Nat.le_refl _) _⟩
theorem below_drewN {B : Nat} {a w : World} (h : Below B a w) (n : Nat) : Below B a (w.drewN n) := ⟨h.os, h.tape, h.output, h.size, h.block⟩
theorem wrap_small {x : Int} (h0 : 0 ≤ x) (h1 : x ≤ 1125899906842623) : IntKind.i64.wrap x = x := by
  rw [IntKind.wrap_i64]; omega
theorem isAhead_any (g : Nat) (c : Ck) (now : Int) (s : St) (w : World) (hc : CkAt w g c) (ho : HlcMath.Ok c) (h0 : 0 ≤ now) (h1 : now ≤ 281474976710655) :
    Calls Try.prog 30 #[.pointer (some ⟨g, 0, none⟩), .int .i64 now, stV s] w fun e w' => e = .returned (.bool (decide (now + c.d < s.p))) ∧ Below w.heap.size w w' := by
  have hd0 := ho.d0
  have hd1 := ho.d1
  have hw : IntKind.i64.wrap (now + c.d) = now + c.d := wrap_small (by omega) (by omega)
  obtain ⟨_, _, _, _, c4⟩ := (hc.alloc (.cells #[.int .i64 s.p, .int .i64 s.l, .int .i64 s.r] 32)).cells
  unfold stV
  go_enter Try.func30, Try.ntmps30
  go_wp2
  go_quiet (fail)
  go_wp2
  go_ret
  exact ⟨rfl, below_drewN ((Below.refl _ _).alloc (Nat.le_refl _) _) _⟩
end Go.Proofs.Ytecijlgkadlmnaa

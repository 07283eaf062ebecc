/-
  Walks of hlc.New and newsreelref1.NewClock.
-/
import Derived.Test.YtecijlgkadlmnaaFnHlcE
namespace Go.Proofs.Ytecijlgkadlmnaa
open Go.RowKit NumMath
open StMath (St)
open HlcMath (Ck)
set_option maxRecDepth 100000
set_option linter.unusedVariables false
set_option linter.unusedSimpArgs false

def newOk (r m d : Int) : Bool := decide (0 ≤ r ∧ r < 64 ∧ 0 ≤ m ∧ m ≤ 65535 ∧ 0 ≤ d ∧ d ≤ 281474976710655)
theorem newOk_iff {r m d : Int} : newOk r m d = true ↔ 0 ≤ r ∧ r < 64 ∧ 0 ≤ m ∧ m ≤ 65535 ∧ 0 ≤ d ∧ d ≤ 281474976710655 := by simp [newOk]
theorem newOk_no {r m d : Int} : newOk r m d = false ↔ ¬ (0 ≤ r ∧ r < 64 ∧ 0 ≤ m ∧ m ≤ 65535 ∧ 0 ≤ d ∧ d ≤ 281474976710655) := by rw [← newOk_iff]; simp
theorem newOk_ok {r m d : Int} (h : newOk r m d = true) : HlcMath.Ok ⟨⟨0, 0, r⟩, m, d⟩ := by
  obtain ⟨h1, h2, h3, h4, h5, h6⟩ := newOk_iff.1 h
  exact ⟨by dsimp only; omega, by dsimp only; omega, by dsimp only; omega, by dsimp only; omega, h1, h2, h3, h4, h5, h6⟩
theorem new_cases (r m d : Int) :
    (r < 0 ∧ Hid (newOk r m d = false)) ∨ ((0 ≤ r ∧ 64 ≤ r) ∧ Hid (newOk r m d = false)) ∨ ((0 ≤ r ∧ r < 64 ∧ m < 0) ∧ Hid (newOk r m d = false)) ∨ ((0 ≤ r ∧ r < 64 ∧ 0 ≤ m ∧ 65535 < m) ∧ Hid (newOk r m d = false)) ∨
    ((0 ≤ r ∧ r < 64 ∧ 0 ≤ m ∧ m ≤ 65535 ∧ d < 0) ∧ HlcMath.isPhys d = false ∧ Hid (newOk r m d = false)) ∨ ((0 ≤ r ∧ r < 64 ∧ 0 ≤ m ∧ m ≤ 65535 ∧ 0 ≤ d ∧ 281474976710655 < d) ∧ HlcMath.isPhys d = false ∧ Hid (newOk r m d = false)) ∨ ((0 ≤ r ∧ r < 64 ∧ 0 ≤ m ∧ m ≤ 65535 ∧ 0 ≤ d ∧ d ≤ 281474976710655) ∧ HlcMath.isPhys d = true ∧ Hid (newOk r m d = true)) := by
  unfold Hid
  simp only [newOk_no, newOk_iff, HlcMath.isPhys_no, HlcMath.isPhys_iff]
  omega
def newR (r m d : Int) (w : World) (P : World → Nat → Ck → Prop) (e : Ending) (w' : World) : Prop :=
  Below w.heap.size w w' ∧ ((newOk r m d = false ∧ e = .returned (.tuple #[.pointer none, .int .i64 24])) ∨
    (newOk r m d = true ∧ ∃ g, w.heap.size ≤ g ∧ e = .returned (.tuple #[.pointer (some ⟨g, 0, none⟩), .int .i64 0]) ∧ P w' g ⟨⟨0, 0, r⟩, m, d⟩))

set_option maxRecDepth 100000 in
set_option maxHeartbeats 8000000 in
theorem new_any (r m d : Int) (w : World) :
    Calls Try.prog 9 #[.int .i64 r, .int .i64 m, .int .i64 d] w fun e w' => newR r m d w CkAt e w' := by
  have HP : Hid (∀ w, _) := fun w => isPhys_any d w
  have HC : Hid (CkAt (w.alloc (.cells #[.int .i64 0, .int .i64 0, .int .i64 r, .int .i64 m, .int .i64 d] 56)) w.heap.size ⟨⟨0, 0, r⟩, m, d⟩) := CkAt.new w ⟨⟨0, 0, r⟩, m, d⟩ rfl
  have HB : Hid (Below w.heap.size w (w.alloc (.cells #[.int .i64 0, .int .i64 0, .int .i64 r, .int .i64 m, .int .i64 d] 56))) := (Below.refl _ _).alloc (Nat.le_refl _) _
  unfold newR
  rcases new_cases r m d with ⟨h1, H⟩ | ⟨⟨h1, h2⟩, H⟩ | ⟨⟨h1, h2, h3⟩, H⟩ | ⟨⟨h1, h2, h3, h4⟩, H⟩ | ⟨⟨h1, h2, h3, h4, h5⟩, hp, H⟩ | ⟨⟨h1, h2, h3, h4, h5, h6⟩, hp, H⟩ | ⟨⟨h1, h2, h3, h4, h5, h6⟩, hp, H⟩
  rotate_left 6
  · rw [hp] at HP
    rw [H.out]
    clear hp
    go_enter Try.func9, Try.ntmps9
    go_wp2_with fail
    refine Calls.mono (HP.out _) ?_
    rintro e w1 ⟨rfl, rfl⟩
    go_wp2
    go_ret2
    exact ⟨HB.out, .inr ⟨by first | rfl | trivial, _, Nat.le_refl _, rfl, HC.out⟩⟩
  all_goals
    rw [H.out]
    (try rw [hp] at HP)
    (try clear hp)
    go_enter Try.func9, Try.ntmps9
    go_wp2_with fail
    (try (refine Calls.mono (HP.out _) ?_; rintro e w1 ⟨rfl, rfl⟩; go_wp2))
    go_ret2
    exact ⟨Below.refl _ _, .inl ⟨by first | rfl | trivial, rfl⟩⟩

set_option maxRecDepth 100000 in
set_option maxHeartbeats 8000000 in
theorem refNew_any (r m d : Int) (w : World) :
    Calls Try.prog 10 #[.int .i64 r, .int .i64 m, .int .i64 d] w fun e w' => newR r m d w RkAt e w' := by
  have HC : Hid (RkAt (w.alloc (.cells #[.int .i64 m, .int .i64 d, .int .i64 0, .int .i64 0, .int .i64 r] 58)) w.heap.size ⟨⟨0, 0, r⟩, m, d⟩) := RkAt.new w ⟨⟨0, 0, r⟩, m, d⟩ rfl
  have HB : Hid (Below w.heap.size w (w.alloc (.cells #[.int .i64 m, .int .i64 d, .int .i64 0, .int .i64 0, .int .i64 r] 58))) := (Below.refl _ _).alloc (Nat.le_refl _) _
  unfold newR
  rcases new_cases r m d with ⟨h1, H⟩ | ⟨⟨h1, h2⟩, H⟩ | ⟨⟨h1, h2, h3⟩, H⟩ | ⟨⟨h1, h2, h3, h4⟩, H⟩ | ⟨⟨h1, h2, h3, h4, h5⟩, hp, H⟩ | ⟨⟨h1, h2, h3, h4, h5, h6⟩, hp, H⟩ | ⟨⟨h1, h2, h3, h4, h5, h6⟩, hp, H⟩
  rotate_left 6
  · rw [H.out]
    clear hp
    go_enter Try.func10, Try.ntmps10
    go_wp2
    go_ret2
    exact ⟨HB.out, .inr ⟨by first | rfl | trivial, _, Nat.le_refl _, rfl, HC.out⟩⟩
  all_goals
    rw [H.out]
    (try clear hp)
    go_enter Try.func10, Try.ntmps10
    go_wp2
    go_ret2
    exact ⟨Below.refl _ _, .inl ⟨by first | rfl | trivial, rfl⟩⟩
end Go.Proofs.Ytecijlgkadlmnaa

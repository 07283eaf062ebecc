/-
  Walks of hlc's Peek, Next, Check, Witness, Floor.
-/
import Derived.Test.YtecijlgkadlmnaaFnHlcC
namespace Go.Proofs.Ytecijlgkadlmnaa
open Go.RowKit NumMath
open StMath (St)
open HlcMath (Ck)
set_option maxRecDepth 100000
set_option linter.unusedVariables false
set_option linter.unusedSimpArgs false

theorem peek_cases (c : Ck) (now : Int) :
    (HlcMath.isPhys now = false ∧ Hid (HlcMath.peek c now = (StMath.zero, 24))) ∨
    (HlcMath.isPhys now = true ∧ HlcMath.foll c now = none ∧ Hid (HlcMath.peek c now = (StMath.zero, 27))) ∨
    (∃ s, HlcMath.isPhys now = true ∧ HlcMath.foll c now = some s ∧ decide (now + c.d < s.p) = true ∧ Hid (HlcMath.peek c now = (StMath.zero, 28))) ∨
    (∃ s, HlcMath.isPhys now = true ∧ HlcMath.foll c now = some s ∧ decide (now + c.d < s.p) = false ∧ Hid (HlcMath.peek c now = (s, 0))) := by
  unfold HlcMath.peek Hid
  cases h : HlcMath.isPhys now
  · left; simp
  · right
    cases hf : HlcMath.foll c now with
    | none => left; simp
    | some s =>
      right
      by_cases hd : now + c.d < s.p
      · left; exact ⟨s, rfl, rfl, by simpa using hd, by simp [HlcMath.lim, hd]⟩
      · right; exact ⟨s, rfl, rfl, by simpa using hd, by simp [HlcMath.lim, hd]⟩

set_option maxRecDepth 100000 in
set_option maxHeartbeats 8000000 in
theorem peek_any (g : Nat) (c : Ck) (now : Int) (w : World) (hc : CkAt w g c) (ho : HlcMath.Ok c) :
    Calls Try.prog 20 #[.pointer (some ⟨g, 0, none⟩), .int .i64 now] w fun e w' => e = .returned (.tuple #[stV (HlcMath.peek c now).1, .int .i64 (HlcMath.peek c now).2]) ∧ Below w.heap.size w w' := by
  have HA0 : Hid (StAt (w.alloc (.cells #[.int .i64 0, .int .i64 0, .int .i64 0] 32)) w.heap.size StMath.zero) := StAt.new w StMath.zero rfl
  have HB0 : Hid (Below w.heap.size w (w.alloc (.cells #[.int .i64 0, .int .i64 0, .int .i64 0] 32))) := (Below.refl _ _).alloc (Nat.le_refl _) _
  have HC0 : Hid (CkAt (w.alloc (.cells #[.int .i64 0, .int .i64 0, .int .i64 0] 32)) g c) := hc.alloc _
  have HP : Hid (∀ w, _) := fun w => isPhys_any now w
  have HF : Hid (∀ w, CkAt w g c → _) := fun w hc => following_any g c now w hc ho
  have HI : Hid (∀ s w, CkAt w g c → 0 ≤ now → now ≤ 281474976710655 → _) := fun s w hc h0 h1 => isAhead_any g c now s w hc ho h0 h1
  clear hc ho
  unfold stV at HF HI
  rcases peek_cases c now with ⟨h1, H⟩ | ⟨h1, h2, H⟩ | ⟨s, h1, h2, h3, H⟩ | ⟨s, h1, h2, h3, H⟩
  · rw [h1] at HP
    clear HF HI h1
    go_enter Try.func20, Try.ntmps20
    go_wp2_with fail
    refine Calls.mono (HP.out _) ?_
    rintro e w1 ⟨rfl, rfl⟩
    go_wp2_with (refine wpList_store_st rfl (.tmp 4) (.tmp 11) rfl w.heap.size StMath.zero StMath.zero rfl rfl HA0.out ?_)
    exact ret_st w.heap.size StMath.zero (.int .i64 24) rfl rfl rfl (StAt.row HA0.out) rfl ⟨by rw [H.out], below_setRow HB0.out (Nat.le_refl _) _⟩
  · rw [h1] at HP
    rw [h2] at HF
    unfold follV StMath.zero at HF
    dsimp only at HF
    clear HI h1 h2
    go_enter Try.func20, Try.ntmps20
    go_wp2_with fail
    refine Calls.mono (HP.out _) ?_
    rintro e w1 ⟨rfl, rfl⟩
    go_wp2_with fail
    refine Calls.mono (HF.out _ HC0.out) ?_
    rintro e w2 ⟨rfl, hb2⟩
    have HA2 : Hid (StAt w2 w.heap.size StMath.zero) := HA0.out.later hb2 HA0.out.lt
    have HB2 : Hid (Below w.heap.size w w2) := HB0.out.trans (hb2.mono HB0.out.size)
    have hs2 : w.heap.size < w2.heap.size := HA2.out.lt
    have HX2 : Hid (StAt (w2.alloc (.cells #[.int .i64 0, .int .i64 0, .int .i64 0] 32)) w2.heap.size StMath.zero) := StAt.new w2 StMath.zero rfl
    have HA3 : Hid (StAt ((w2.alloc (.cells #[.int .i64 0, .int .i64 0, .int .i64 0] 32)).setRow w2.heap.size (stL StMath.zero).toArray) w.heap.size StMath.zero) := StAt.row_other (HA2.out.alloc _) _ (by omega)
    have HB3 : Hid (Below w.heap.size w ((w2.alloc (.cells #[.int .i64 0, .int .i64 0, .int .i64 0] 32)).setRow w2.heap.size (stL StMath.zero).toArray)) := below_setRow (HB2.out.alloc HB2.out.size _) (by omega) _
    clear HA0 HB0 HC0 HA2 HB2 hb2
    go_wp2_with (first
      | refine wpList_store_st rfl (.tmp 6) (.tmp 16) rfl w2.heap.size StMath.zero StMath.zero rfl rfl HX2.out ?_
      | refine wpList_store_st rfl (.tmp 4) (.tmp 20) rfl w.heap.size StMath.zero StMath.zero rfl rfl HA3.out ?_)
    exact ret_st w.heap.size StMath.zero (.int .i64 27) rfl rfl rfl (StAt.row HA3.out) rfl ⟨by rw [H.out], below_setRow HB3.out (Nat.le_refl _) _⟩
  all_goals
    have hp := HlcMath.isPhys_iff.1 h1
    have HI2 : Hid (∀ w, CkAt w g c → _) := fun w hc => HI.out s w hc hp.1 hp.2
    rw [h1] at HP
    rw [h2] at HF
    rw [h3] at HI2
    unfold follV at HF
    dsimp only at HF
    clear HI h1 h2 h3 hp
    go_enter Try.func20, Try.ntmps20
    go_wp2_with fail
    refine Calls.mono (HP.out _) ?_
    rintro e w1 ⟨rfl, rfl⟩
    go_wp2_with fail
    refine Calls.mono (HF.out _ HC0.out) ?_
    rintro e w2 ⟨rfl, hb2⟩
    have HA2 : Hid (StAt w2 w.heap.size StMath.zero) := HA0.out.later hb2 HA0.out.lt
    have HC2 : Hid (CkAt w2 g c) := HC0.out.later hb2 HC0.out.lt
    have HB2 : Hid (Below w.heap.size w w2) := HB0.out.trans (hb2.mono HB0.out.size)
    have hs2 : w.heap.size < w2.heap.size := HA2.out.lt
    have hg2 : g < w2.heap.size := HC2.out.lt
    have HX2 : Hid (StAt (w2.alloc (.cells #[.int .i64 0, .int .i64 0, .int .i64 0] 32)) w2.heap.size StMath.zero) := StAt.new w2 StMath.zero rfl
    have HX3 : Hid (StAt ((w2.alloc (.cells #[.int .i64 0, .int .i64 0, .int .i64 0] 32)).setRow w2.heap.size (stL s).toArray) w2.heap.size s) := StAt.row HX2.out
    have HA3 : Hid (StAt ((w2.alloc (.cells #[.int .i64 0, .int .i64 0, .int .i64 0] 32)).setRow w2.heap.size (stL s).toArray) w.heap.size StMath.zero) := StAt.row_other (HA2.out.alloc _) _ (by omega)
    have HC3 : Hid (CkAt ((w2.alloc (.cells #[.int .i64 0, .int .i64 0, .int .i64 0] 32)).setRow w2.heap.size (stL s).toArray) g c) := CkAt.row_other (HC2.out.alloc _) _ (by omega)
    have HB3 : Hid (Below w.heap.size w ((w2.alloc (.cells #[.int .i64 0, .int .i64 0, .int .i64 0] 32)).setRow w2.heap.size (stL s).toArray)) := below_setRow (HB2.out.alloc HB2.out.size _) (by omega) _
    clear HA0 HB0 HC0 HA2 HB2 hb2 HC2 hs2 hg2
    go_wp2_with (first
      | refine wpList_store_st rfl (.tmp 6) (.tmp 16) rfl w2.heap.size StMath.zero s rfl rfl HX2.out ?_
      | refine wpList_load_mid rfl 32 (.tmp 6) rfl w2.heap.size 0 rfl (stL s) _ (range_of_arr HX3.out.arr) Try.underlying32 rfl sizeSt ?_)
    refine Calls.mono (HI2.out _ HC3.out) ?_
    rintro e w4 ⟨rfl, hb4⟩
    have HA4 : Hid (StAt w4 w.heap.size StMath.zero) := HA3.out.later hb4 HA3.out.lt
    have HX4 : Hid (StAt w4 w2.heap.size s) := HX3.out.later hb4 HX3.out.lt
    have HB4 : Hid (Below w.heap.size w w4) := HB3.out.trans (hb4.mono HB3.out.size)
    clear hb4 HX2 HX3 HA3 HC3 HB3
    go_wp2_with (first
      | refine wpList_load_mid rfl 32 (.tmp 6) rfl w2.heap.size 0 rfl (stL s) _ (range_of_arr HX4.out.arr) Try.underlying32 rfl sizeSt ?_
      | refine wpList_store_st rfl (.tmp 4) (.tmp 26) rfl w.heap.size StMath.zero StMath.zero rfl rfl HA4.out ?_
      | refine wpList_store_st rfl (.tmp 4) (.tmp 27) rfl w.heap.size StMath.zero s rfl rfl HA4.out ?_)
    first
      | exact ret_st w.heap.size StMath.zero (.int .i64 28) rfl rfl rfl (StAt.row HA4.out) rfl ⟨by rw [H.out], below_setRow HB4.out (Nat.le_refl _) _⟩
      | exact ret_st w.heap.size s (.int .i64 0) rfl rfl rfl (StAt.row HA4.out) rfl ⟨by rw [H.out], below_setRow HB4.out (Nat.le_refl _) _⟩
end Go.Proofs.Ytecijlgkadlmnaa

/-
  Walk of num.Fixed.
-/
import Derived.Test.YtpffjeoiacaihaaDoorFixM
namespace Go.Proofs.YtpffjeoiacaihaaDoor
open Go.RowKit NumMath
set_option maxRecDepth 100000
set_option linter.unusedVariables false
set_option linter.unusedSimpArgs false

theorem fixed_any (v n : Int) (w : World) (h0 : 0 ≤ v) (h1 : v ≤ 18446744073709551615) (hn0 : -9223372036854775808 ≤ n) (hn1 : n ≤ 9223372036854775807) :
    Calls Tryd.prog 64 #[.int .u64 v, .int .i64 n] w fun e w' => e = .returned (.slice (some ⟨w.heap.size, 0, none⟩) (held n) (held n)) ∧
      w'.ownsRow w.heap.size 5 1 (.slice (some ⟨w.heap.size, 0, none⟩) (held n) (held n)) (held n) ((fixL (held n) v).map (Value.int .u8)) ∧ Below w.heap.size w w' := by
  obtain ⟨i0, hi, hz0, hz1, hz2⟩ := info_parts Tryd.info5
  have hcs := held_cases n
  generalize held n = m at *
  have hm8 : m ≤ 8 := by omega
  have hmz : (madeCells (Value.int .u8 0).cells (m * 1)).toList = (List.replicate m (0 : Int)).map (Value.int .u8) := by
    rw [Nat.mul_one, show (Value.int .u8 0).cells = #[.int .u8 0] from rfl, toList_madeCells_one, List.map_replicate]
  have HMZ : Hid ((madeCells (Value.int .u8 0).cells (m * 1)).toList = (List.replicate m (0 : Int)).map (Value.int .u8)) := hmz
  have hdecide : (n < 0 ∧ m ≤ 0) ∨ (8 < n ∧ 8 ≤ m) ∨ (n = (m : Int)) := by omega
  clear hcs hmz
  rcases hdecide with ⟨hn, hm⟩ | ⟨hn, hm⟩ | rfl
  all_goals
    go_enter Tryd.func64, Tryd.ntmps64
    go_wp2_with (at_make; refine wpList_make_full _ rfl _ _ 24 rfl w.heap.size 5 i0 (.int .u8 0) 1 Tryd.underlying24 hi hz0 hz1 _ _ _ _ m rfl rfl (by omega) (by omega) (by rw [hz2]; omega) (by unfold maxLen; omega) (Nat.le_refl _) ?_; intro w0 hown0 hgrow0)
    rw [HMZ.out] at hown0
    have hb0 : Below w.heap.size w w0 := (Below.refl _ _).grown hgrow0 (Nat.le_refl _) (fun k h => by cases h)
    clear hgrow0
    go_loopw [0, 6] (fun x i wr => ∃ (c : Nat) (V : Int) (S : List Int), c ≤ m ∧ i = .int .i64 ((c : Int) - 1) ∧ x = .int .u64 V ∧ 0 ≤ V ∧ V ≤ 18446744073709551615 ∧ fixL c V ++ S = fixL m v ∧
        wr.ownsRow w.heap.size 5 1 (.slice (some ⟨w.heap.size, 0, none⟩) m m) m ((List.replicate c (0 : Int) ++ S).map (Value.int .u8)) ∧ Below w.heap.size w wr) (fun _ i _ => (intOf i + 1).toNat)
    case atStart => exact ⟨m, v, [], by omega, rfl, rfl, h0, h1, by simp, by simpa using hown0, hb0⟩
    case round =>
      obtain ⟨c, V, S, hc, rfl, rfl, hV0, hV1, hS, hown, hnx⟩ := hrel
      have HS : Hid (fixL c V ++ S = fixL m v) := hS
      clear hS hown0 hb0
      by_cases hc0 : 1 ≤ c
      · obtain ⟨q, rfl⟩ : ∃ q, c = q + 1 := ⟨c - 1, by omega⟩
        have hcell : ∃ u, wr.cell? ⟨w.heap.size, q, none⟩ = some u := by
          rw [hown.cellAt q (by omega)]
          exact ⟨_, List.getElem?_eq_getElem (by have := hown.1; omega)⟩
        obtain ⟨u, hcell⟩ := hcell
        have hfz := hown.frozenAt q
        have hst := hown.stored q (.int .u8 (V % 256))
        have hb2 : Below w.heap.size w (wr.setCell ⟨w.heap.size, q, none⟩ (.int .u8 (V % 256))) := hnx.setCell (Nat.le_refl _) _
        have hown2 := hst.1
        rw [← List.map_set, rep_set] at hown2
        clear hst hc0 hown
        first
          | (exfalso; omega)
          | (go_wp2
             go_roundw
             case rel => exact ⟨q, V / 256, (V % 256) :: S, by omega, by go_num, rfl, by omega, by omega, by rw [← HS.out, fixL]; simp, hown2, hb2⟩
             case measure => simp [intOf])
      · obtain rfl : c = 0 := by omega
        go_wp2
        go_ret
        have e := HS.out
        simp only [fixL, List.nil_append] at e
        subst e
        exact ⟨rfl, by simpa using hown, hnx⟩

/-- num.Fixed likewise. -/
theorem fixed_own (v n : Int) (w : World) (xs : List Int) (m : Nat) (hxs : fixL (held n) v = xs) (hm : held n = m) (h0 : 0 ≤ v) (h1 : v ≤ 18446744073709551615) (hn0 : -9223372036854775808 ≤ n) (hn1 : n ≤ 9223372036854775807) :
    Calls Tryd.prog 64 #[.int .u64 v, .int .i64 n] w fun e w' => ∃ g, e = .returned (.slice (some ⟨g, 0, none⟩) m m) ∧
      w'.ownsRow w.heap.size 5 1 (.slice (some ⟨g, 0, none⟩) m m) m (xs.map (Value.int .u8)) ∧ Below w.heap.size w w' := by
  refine (fixed_any v n w h0 h1 hn0 hn1).mono ?_
  subst hxs hm
  rintro e w' ⟨rfl, h1, h2⟩
  exact ⟨_, rfl, h1, h2⟩

end Go.Proofs.YtpffjeoiacaihaaDoor

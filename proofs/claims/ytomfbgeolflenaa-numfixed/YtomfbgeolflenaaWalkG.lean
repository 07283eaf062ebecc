/-
  Walks of num.Fixed and newsreelref1.Fixed: a number's lowest bytes, the highest of them first, in new memory.
-/
import Derived.Test.YtomfbgeolflenaaWalkF
import Derived.Test.YtomfbgeolflenaaMathG
namespace Go.Proofs.Ytomfbgeolflenaa
open Go.RowKit NumMath
set_option linter.unusedVariables false

/-- How many bytes are asked for: n held to 0 to 8. -/
def held (n : Int) : Nat := (min (max n 0) 8).toNat

theorem held_cases (n : Int) : (n < 0 ∧ held n = 0) ∨ (8 < n ∧ held n = 8) ∨ (n = (held n : Int) ∧ held n ≤ 8) := by
  unfold held; omega

theorem rep_set (c : Nat) (S : List Int) (x : Int) : (List.replicate (c + 1) (0 : Int) ++ S).set c x = List.replicate c 0 ++ (x :: S) := by
  rw [List.replicate_succ', List.append_assoc, List.set_append]
  simp

theorem fixed_any (v n : Int) (w : World) (h0 : 0 ≤ v) (h1 : v ≤ 18446744073709551615) (hn0 : -9223372036854775808 ≤ n) (hn1 : n ≤ 9223372036854775807) :
    Calls Try.prog 16 #[.int .u64 v, .int .i64 n] w fun e w' => e = .returned (.slice (some ⟨w.heap.size, 0, none⟩) (held n) (held n)) ∧
      w'.ownsRow w.heap.size 5 1 (.slice (some ⟨w.heap.size, 0, none⟩) (held n) (held n)) (held n) ((fixL (held n) v).map (Value.int .u8)) ∧ Below w.heap.size w w' := by
  obtain ⟨i0, hi, hz0, hz1, hz2⟩ := info_parts Try.info5
  have hcs := held_cases n
  generalize held n = m at *
  have hm8 : m ≤ 8 := by omega
  have hmz : (madeCells (Value.int .u8 0).cells (m * 1)).toList = (List.replicate m (0 : Int)).map (Value.int .u8) := by
    rw [Nat.mul_one, show (Value.int .u8 0).cells = #[.int .u8 0] from rfl, toList_madeCells_one, List.map_replicate]
  have HMZ : Hid ((madeCells (Value.int .u8 0).cells (m * 1)).toList = (List.replicate m (0 : Int)).map (Value.int .u8)) := hmz
  have hdecide : (n < 0 ∧ m ≤ 0) ∨ (8 < n ∧ 8 ≤ m) ∨ (n = (m : Int)) := by omega
  clear hcs hmz
  rcases hdecide with ⟨hn, hm⟩ | ⟨hn, hm⟩ | rfl
  all_goals
    go_enter Try.func16, Try.ntmps16
    go_wp2_with (at_make; refine wpList_make_full _ rfl _ _ 22 rfl w.heap.size 5 i0 (.int .u8 0) 1 Try.underlying22 hi hz0 hz1 _ _ _ _ m rfl rfl (by omega) (by omega) (by rw [hz2]; omega) (by unfold maxLen; omega) (Nat.le_refl _) ?_; intro w0 hown0 hgrow0)
    rw [HMZ.out] at hown0
    have hb0 : Below w.heap.size w w0 := (Below.refl _ _).grown hgrow0 (Nat.le_refl _) (fun k h => by cases h)
    clear hgrow0
    go_loopw [0, 6] (fun x i wr => ∃ (c : Nat) (V : Int) (S : List Int), c ≤ m ∧ i = .int .i64 ((c : Int) - 1) ∧ x = .int .u64 V ∧ 0 ≤ V ∧ V ≤ 18446744073709551615 ∧ fixL c V ++ S = fixL m v ∧
        wr.ownsRow w.heap.size 5 1 (.slice (some ⟨w.heap.size, 0, none⟩) m m) m ((List.replicate c (0 : Int) ++ S).map (Value.int .u8)) ∧ Below w.heap.size w wr) (fun _ i _ => (intOf i + 1).toNat)
    case atStart => exact ⟨m, v, [], by omega, rfl, rfl, h0, h1, by simp, by simpa using hown0, hb0⟩
    case round =>
      obtain ⟨c, V, S, hc, rfl, rfl, hV0, hV1, hS, hown, hnx⟩ := hrel
      have HS : Hid (fixL c V ++ S = fixL m v) := hS
      clear hS hown0 hb0
      by_cases hc0 : 1 ≤ c
      · obtain ⟨q, rfl⟩ : ∃ q, c = q + 1 := ⟨c - 1, by omega⟩
        have hcell : ∃ u, wr.cell? ⟨w.heap.size, q, none⟩ = some u := by
          rw [hown.cellAt q (by omega)]
          exact ⟨_, List.getElem?_eq_getElem (by have := hown.1; omega)⟩
        obtain ⟨u, hcell⟩ := hcell
        have hfz := hown.frozenAt q
        have hst := hown.stored q (.int .u8 (V % 256))
        have hb2 : Below w.heap.size w (wr.setCell ⟨w.heap.size, q, none⟩ (.int .u8 (V % 256))) := hnx.setCell (Nat.le_refl _) _
        have hown2 := hst.1
        rw [← List.map_set, rep_set] at hown2
        clear hst hc0 hown
        first
          | (exfalso; omega)
          | (go_wp2
             go_roundw
             case rel => exact ⟨q, V / 256, (V % 256) :: S, by omega, by go_num, rfl, by omega, by omega, by rw [← HS.out, fixL]; simp, hown2, hb2⟩
             case measure => simp [intOf])
      · obtain rfl : c = 0 := by omega
        go_wp2
        go_ret
        have e := HS.out
        simp only [fixL, List.nil_append] at e
        subst e
        exact ⟨rfl, by simpa using hown, hnx⟩
theorem two8 (k : Nat) : (2 : Int) ^ (8 * k) = 256 ^ k := by rw [Int.pow_mul]; rfl

theorem refFixed_any (v n : Int) (w : World) (h0 : 0 ≤ v) (h1 : v ≤ 18446744073709551615) (hn0 : -9223372036854775808 ≤ n) (hn1 : n ≤ 9223372036854775807) :
    Calls Try.prog 17 #[.int .u64 v, .int .i64 n] w fun e w' => ∃ r, e = .returned r ∧
      w'.ownsRow w.heap.size 5 1 r (held n) ((fixL (held n) v).map (Value.int .u8)) ∧ Below w.heap.size w w' := by
  obtain ⟨i0, hi, hz0, hz1, hz2⟩ := info_parts Try.info5
  have hcs := held_cases n
  generalize held n = m at *
  have hm8 : m ≤ 8 := by omega
  have hdecide : (n < 0 ∧ m ≤ 0) ∨ (8 < n ∧ 8 ≤ m) ∨ (n = (m : Int)) := by omega
  clear hcs
  rcases hdecide with ⟨hn, hm⟩ | ⟨hn, hm⟩ | rfl
  all_goals
    go_enter Try.func17, Try.ntmps17
    go_wp2
    go_loopw [5, 6] (fun out i wr => ∃ (c : Nat) (R : List Int), c ≤ m ∧ i = .int .i64 ((c : Int) - 1) ∧ R ++ fixL c v = fixL m v ∧
        wr.ownsRow w.heap.size 5 1 out R.length (R.map (Value.int .u8)) ∧ Below w.heap.size w wr) (fun _ i _ => (intOf i + 1).toNat)
    case atStart => exact ⟨m, [], by omega, by first | rfl | go_num, by simp, World.ownsRow_nil _ _ _ _, Below.refl _ _⟩
    case round =>
      obtain ⟨c, R, hc, rfl, hR, hown, hnx⟩ := hrel
      have hRl : R.length + c = m := by have := congrArg List.length hR; simpa [fixL_len] using this
      have hRl' : R.length ≤ 8 := by omega
      have HRL : Hid (R.length + c = m) := hRl
      have HR : Hid (R ++ fixL c v = fixL m v) := hR
      have hsz := hnx.size
      clear hR hRl
      by_cases hc0 : 1 ≤ c
      · obtain ⟨q, rfl⟩ : ∃ q, c = q + 1 := ⟨c - 1, by omega⟩
        have h2 := two8 q
        clear hc0
        first
          | (exfalso; omega)
          | (go_wp2_with (at_builtin; refine wpList_append_own _ rfl (.tmp 15) (.tmp 21) 22 rfl w.heap.size 5 i0 (.int .u8 0) 1 1 Try.underlying22 hi hz0 hz1 hz2 rfl (by decide) _ R.length _ rfl (hown.alloc _) ⟨wr.heap.size, 0, none⟩ 1 1 [.int .u8 (v / 256 ^ q % 256)] rfl rfl (one_new _ _ _) (one_cell _ _) (by unfold maxLen; omega) (by omega) (by simp; omega) ?_; intro v2 w2 hown2 hgrow2 _)
             have hb2 : Below w.heap.size w w2 := (hnx.alloc hnx.size _).grown hgrow2 (by simp; omega) (own_ge hown)
             clear hgrow2 hown
             go_roundw
             case rel => exact ⟨q, R ++ [v / 256 ^ q % 256], by omega, by go_num, by rw [← HR.out, fixL_head]; simp, by simpa using hown2, hb2⟩
             case measure => simp [intOf])
      · obtain rfl : c = 0 := by omega
        go_wp2
        go_ret
        have e := HR.out
        simp only [fixL, List.append_nil] at e
        have e2 := HRL.out
        simp only [Nat.add_zero] at e2
        rw [e, ← e, e2] at hown
        exact ⟨_, rfl, by rw [← e]; exact hown, hnx⟩

end Go.Proofs.Ytomfbgeolflenaa

/-
  FixM, FnRefFixed, FnLastFits.
-/
import Derived.Test.YteockpllnhjooaaGreatDoorQ02
import Derived.Test.YteockpllnhjooaaGreatDoorQ01
namespace Go.Proofs.YteockpllnhjooaaGreatDoor
open Go.RowKit NumMath
set_option maxRecDepth 100000
set_option linter.unusedVariables false
set_option linter.unusedSimpArgs false

/-- How many bytes are asked for: n held to 0 to 8. -/
def held (n : Int) : Nat := (min (max n 0) 8).toNat

theorem held_cases (n : Int) : (n < 0 ∧ held n = 0) ∨ (8 < n ∧ held n = 8) ∨ (n = (held n : Int) ∧ held n ≤ 8) := by
  unfold held; omega

theorem rep_set (c : Nat) (S : List Int) (x : Int) : (List.replicate (c + 1) (0 : Int) ++ S).set c x = List.replicate c 0 ++ (x :: S) := by
  rw [List.replicate_succ', List.append_assoc, List.set_append]
  simp

end Go.Proofs.YteockpllnhjooaaGreatDoor
namespace Go.Proofs.YteockpllnhjooaaGreatDoor
open Go.RowKit NumMath
set_option maxRecDepth 100000
set_option linter.unusedVariables false
set_option linter.unusedSimpArgs false

theorem two8 (k : Nat) : (2 : Int) ^ (8 * k) = 256 ^ k := by rw [Int.pow_mul]; rfl

theorem refFixed_any (v n : Int) (w : World) (h0 : 0 ≤ v) (h1 : v ≤ 18446744073709551615) (hn0 : -9223372036854775808 ≤ n) (hn1 : n ≤ 9223372036854775807) :
    Calls Tryz.prog 66 #[.int .u64 v, .int .i64 n] w fun e w' => ∃ r, e = .returned r ∧
      w'.ownsRow w.heap.size 5 1 r (held n) ((fixL (held n) v).map (Value.int .u8)) ∧ Below w.heap.size w w' := by
  obtain ⟨i0, hi, hz0, hz1, hz2⟩ := info_parts Tryz.info5
  have hcs := held_cases n
  generalize held n = m at *
  have hm8 : m ≤ 8 := by omega
  have hdecide : (n < 0 ∧ m ≤ 0) ∨ (8 < n ∧ 8 ≤ m) ∨ (n = (m : Int)) := by omega
  clear hcs
  rcases hdecide with ⟨hn, hm⟩ | ⟨hn, hm⟩ | rfl
  all_goals
    go_enter Tryz.func66, Tryz.ntmps66
    go_wp2
    go_loopw [5, 6] (fun out i wr => ∃ (c : Nat) (R : List Int), c ≤ m ∧ i = .int .i64 ((c : Int) - 1) ∧ R ++ fixL c v = fixL m v ∧
        wr.ownsRow w.heap.size 5 1 out R.length (R.map (Value.int .u8)) ∧ Below w.heap.size w wr) (fun _ i _ => (intOf i + 1).toNat)
    case atStart => exact ⟨m, [], by omega, by first | rfl | go_num, by simp, World.ownsRow_nil _ _ _ _, Below.refl _ _⟩
    case round =>
      obtain ⟨c, R, hc, rfl, hR, hown, hnx⟩ := hrel
      have hRl : R.length + c = m := by have := congrArg List.length hR; simpa [fixL_len] using this
      have hRl' : R.length ≤ 8 := by omega
      have HRL : Hid (R.length + c = m) := hRl
      have HR : Hid (R ++ fixL c v = fixL m v) := hR
      have hsz := hnx.size
      clear hR hRl
      by_cases hc0 : 1 ≤ c
      · obtain ⟨q, rfl⟩ : ∃ q, c = q + 1 := ⟨c - 1, by omega⟩
        have h2 := two8 q
        clear hc0
        first
          | (exfalso; omega)
          | (go_wp2_with (at_builtin; refine wpList_append_own _ rfl (.tmp 15) (.tmp 21) 48 rfl w.heap.size 5 i0 (.int .u8 0) 1 1 Tryz.underlying48 hi hz0 hz1 hz2 rfl (by decide) _ R.length _ rfl (hown.alloc _) ⟨wr.heap.size, 0, none⟩ 1 1 [.int .u8 (v / 256 ^ q % 256)] rfl rfl (one_new _ _ _) (one_cell _ _) (by unfold maxLen; omega) (by omega) (by simp; omega) ?_; intro v2 w2 hown2 hgrow2 _)
             have hb2 : Below w.heap.size w w2 := (hnx.alloc hnx.size _).grown hgrow2 (by simp; omega) (own_ge hown)
             clear hgrow2 hown
             go_roundw
             case rel => exact ⟨q, R ++ [v / 256 ^ q % 256], by omega, by go_num, by rw [← HR.out, fixL_head]; simp, by simpa using hown2, hb2⟩
             case measure => simp [intOf])
      · obtain rfl : c = 0 := by omega
        go_wp2
        go_ret
        have e := HR.out
        simp only [fixL, List.append_nil] at e
        have e2 := HRL.out
        simp only [Nat.add_zero] at e2
        rw [e, ← e, e2] at hown
        exact ⟨_, rfl, by rw [← e]; exact hown, hnx⟩

end Go.Proofs.YteockpllnhjooaaGreatDoor
namespace Go.Proofs.YteockpllnhjooaaGreatDoor
open Go.RowKit NumMath
set_option maxRecDepth 100000
set_option linter.unusedVariables false
set_option linter.unusedSimpArgs false

theorem lastFits_any (c : Int) (i : Nat) (w : World) (h0 : 0 ≤ c) (h1 : c ≤ 255) (hi : i ≤ 10) :
    Calls Tryz.prog 68 #[.int .u8 c, .int .i64 (i : Int)] w fun e w' => e = .returned (.bool (fits c i)) ∧ w' = w := by
  by_cases hc : c = 0
  · subst hc
    by_cases hi0 : i = 0
    · subst hi0
      go_enter Tryz.func68, Tryz.ntmps68
      go_wp2
      go_ret
      exact ⟨rfl, rfl⟩
    · have hb : ((i : Int) == 0) = false := by simp; omega
      go_enter Tryz.func68, Tryz.ntmps68
      go_wp2
      go_ret
      exact ⟨by simp [fits, hi0], rfl⟩
  · have hb : (c == 0) = false := by simp [hc]
    by_cases hi9 : i < 9
    · have hd : decide ((i : Int) < 9) = true := by simp; omega
      go_enter Tryz.func68, Tryz.ntmps68
      go_wp2
      go_ret
      exact ⟨by simp [fits, hc, hi9], rfl⟩
    · have hd : decide ((i : Int) < 9) = false := by simp; omega
      go_enter Tryz.func68, Tryz.ntmps68
      go_wp2
      go_ret
      exact ⟨by simp [fits, hc, hi9], rfl⟩

end Go.Proofs.YteockpllnhjooaaGreatDoor

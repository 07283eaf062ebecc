/-
  FnNextC, FnNext.
-/
import Derived.Test.YteockpllnhjooaaGreatDoorQC15
import Derived.Test.YteockpllnhjooaaGreatDoorQC06
import Derived.Laws.BitsLemmas
import Derived.Test.YteockpllnhjooaaGreatDoorQC26
namespace Go.Proofs.YteockpllnhjooaaGreatDoor
open Go.RowKit NumMath
set_option maxRecDepth 100000
set_option linter.unusedVariables false
set_option linter.unusedSimpArgs false


set_option maxRecDepth 100000 in
set_option maxHeartbeats 4000000 in
theorem next_four (l : List Nat) (pos : Nat) (w : World) (hb : ∀ c ∈ l, c < 256) (hp : pos < l.length) (hm : l.length ≤ 140737488355328) (h1 : 240 ≤ TxtMath.byteAt (l.drop pos) 0) (h2 : TxtMath.byteAt (l.drop pos) 0 < 248) :
    Calls Tryz.prog 62 #[.string (strN l), .int .i64 (pos : Int)] w fun e w' => e = .returned (.tuple #[.int .i64 (((TxtMath.dec (l.drop pos)).1 : Nat) : Int), .int .i64 (((TxtMath.dec (l.drop pos)).2 : Nat) : Int)]) ∧ w' = w := by
  have hsz := strN_size l
  have hMu : TxtMath.Multi (l.drop pos) 3 (TxtMath.byteAt (l.drop pos) 0 % 8) 65536 := by unfold TxtMath.Multi; omega
  have hix0 : ∀ w, (Instr.index 9 (.string (strN l)) (.int .i64 (pos : Int))).run Tryz.prog w = .ok (.int .u8 ((TxtMath.byteAt (l.drop pos) 0 : Nat) : Int)) w := by
    intro w; rw [index_strN l hb pos hp]; simp [TxtMath.byteAt]
  have hlen : ∀ k, TxtMath.contAt (l.drop pos) k = (decide (pos + k < l.length) && TxtMath.byteAt (l.drop pos) k / 64 == 2) := by
    intro k; unfold TxtMath.contAt; congr 1; apply decide_eq_decide.2; simp; omega
  have hix : ∀ k, pos + k < l.length → ∀ w, (Instr.index 9 (.string (strN l)) (.int .i64 ((pos : Int) + (k : Int)))).run Tryz.prog w = .ok (.int .u8 ((TxtMath.byteAt (l.drop pos) k : Nat) : Int)) w := by
    intro k hk w
    have := index_strN l hb (pos + k) hk .i64 w
    rw [show ((pos + k : Nat) : Int) = (pos : Int) + (k : Int) by omega] at this
    rw [this]; simp [TxtMath.byteAt]
  have hby : ∀ k, TxtMath.byteAt (l.drop pos) k < 256 := by
    intro k
    unfold TxtMath.byteAt
    rcases h : (l.drop pos)[k]? with _ | c
    · simp
    · exact hb c (List.mem_of_mem_drop (List.mem_of_getElem? h))
  generalize l.drop pos = t at *
  obtain ⟨c0, hc0⟩ : ∃ c, c = TxtMath.byteAt t 0 := ⟨_, rfl⟩
  have hc256 := hby 0
  rw [← hc0] at hix0 h1 h2 hMu hc256
  have hand : bits .and .i64 (c0 : Int) 7 = ((c0 % 8 : Nat) : Int) := and7 c0 hc256
  have hal := TxtMath.acc_lt t (c0 % 8) (by omega)
  have HS0 : Hid (∀ k, 1 ≤ k → k ≤ 3 → TxtMath.contAt t k = false → TxtMath.dec t = (65533, 1)) := fun k a b c => TxtMath.dec_stop hMu k a b c
  have HG0 : Hid (TxtMath.goes t 3 → TxtMath.dec t = if TxtMath.off (TxtMath.acc t (c0 % 8) 3) 65536 then (65533, 1) else (TxtMath.acc t (c0 % 8) 3, 3 + 1)) := fun a => TxtMath.dec_goes hMu a
  have Hlen : Hid _ := hlen
  have HIX : Hid _ := hix
  have HBY : Hid _ := hby
  have HAL : Hid _ := hal
  clear hMu hlen hix hby hal hc0
  go_enter Tryz.func62, Tryz.ntmps62
  go_wp2
  go_loop [6, 9] (fun c i => ∃ k q : Nat, q = k + 1 ∧ k ≤ 3 ∧ c = .int .i64 ((TxtMath.acc t (c0 % 8) k : Nat) : Int) ∧ i = .int .i64 (q : Int) ∧ TxtMath.goes t k) (fun _ i => 8 - (intOf i).toNat)
  case atStart => exact ⟨0, 1, rfl, by omega, by simp [TxtMath.acc], rfl, fun j h1 h2 => by omega⟩
  case round =>
    obtain ⟨k, q, hq, hk, rfl, rfl, hg⟩ := hrel
    have HQ : Hid _ := hq
    have HG : Hid _ := hg
    have ha := HAL.out k (by omega)
    have hq1 : 1 ≤ q ∧ q ≤ 4 := by omega
    by_cases hlt : q ≤ 3
    · have Hst : Hid (TxtMath.contAt t q = false → TxtMath.dec t = (65533, 1)) := HS0.out q (by omega) (by omega)
      have hcl := Hlen.out q
      by_cases hin : pos + q < l.length
      · have hix1 := HIX.out q hin
        have hb1 := HBY.out q
        have Hacc : Hid (TxtMath.acc t (c0 % 8) q = TxtMath.acc t (c0 % 8) k * 64 + TxtMath.byteAt t q % 64) := by show _ = _; rw [hq]; rfl
        generalize TxtMath.byteAt t q = b at *
        generalize TxtMath.acc t (c0 % 8) k = v at *
        have Hcl : Hid _ := hcl
        clear hcl hg hq
        have hm8 := mask8 b hb1
        obtain ⟨x, hor, hx⟩ : ∃ x : Nat, bits .or .i64 ((v : Int) * 64) ((b : Int) % 64) = (x : Int) ∧ x = v * 64 + b % 64 := ⟨_, by rw [← or6 v (b % 64) ha (by omega)]; simp, rfl⟩
        have Hx : Hid _ := hx
        clear hx
        by_cases hb2 : b < 128
        · go_wp2
          go_ret2
          rw [Hst.out (by rw [Hcl.out]; simp; omega)]
          exact ⟨rfl, rfl⟩
        · by_cases hb3 : 192 ≤ b
          · go_wp2
            go_ret2
            rw [Hst.out (by rw [Hcl.out]; simp; omega)]
            exact ⟨rfl, rfl⟩
          · go_wp2
            go_round
            case rel => exact ⟨_, _, _, _, ⟨k + 1, by have := HQ.out; omega, by rw [← HQ.out, Hacc.out, ← Hx.out], by simp [HQ.out], (by
              intro j hj1 hj2
              by_cases e : j = q
              · subst e; rw [Hcl.out]; simp; omega
              · exact HG.out j hj1 (by have := HQ.out; omega))⟩, rfl, rfl, rfl, rfl⟩
            case measure => simp [intOf]; omega
      · clear hg hq
        have Hcl : Hid _ := hcl
        clear hcl
        go_wp2
        go_ret2
        rw [Hst.out (by rw [Hcl.out]; simp; omega)]
        exact ⟨rfl, rfl⟩
    · have e : k = 3 := by omega
      subst e
      have hq3 : q = 4 := by omega
      clear HQ
      subst hq3
      have Hd : Hid _ := HG0.out hg
      clear HG0 HS0 HAL
      clear hg HG
      generalize TxtMath.acc t (c0 % 8) 3 = v at *
      go_wp2
      all_goals go_ret2
      all_goals refine ⟨?_, rfl⟩
      all_goals rw [Hd.out]
      all_goals unfold TxtMath.off
      all_goals simp at *
      all_goals first
        | (rw [if_pos (by omega)]; exact ⟨rfl, rfl⟩)
        | (rw [if_neg (by omega)]; exact ⟨rfl, rfl⟩)
end Go.Proofs.YteockpllnhjooaaGreatDoor
namespace Go.Proofs.YteockpllnhjooaaGreatDoor
open Go.RowKit NumMath
set_option maxRecDepth 100000
set_option linter.unusedVariables false
set_option linter.unusedSimpArgs false

set_option maxRecDepth 100000 in
theorem next_plain (l : List Nat) (pos : Nat) (w : World) (hb : ∀ c ∈ l, c < 256) (hp : pos < l.length) (h1 : TxtMath.byteAt (l.drop pos) 0 < 192 ∨ 248 ≤ TxtMath.byteAt (l.drop pos) 0) :
    Calls Tryz.prog 62 #[.string (strN l), .int .i64 (pos : Int)] w fun e w' => e = .returned (.tuple #[.int .i64 (((TxtMath.dec (l.drop pos)).1 : Nat) : Int), .int .i64 (((TxtMath.dec (l.drop pos)).2 : Nat) : Int)]) ∧ w' = w := by
  have hsz := strN_size l
  have hix0 : ∀ w, (Instr.index 9 (.string (strN l)) (.int .i64 (pos : Int))).run Tryz.prog w = .ok (.int .u8 ((TxtMath.byteAt (l.drop pos) 0 : Nat) : Int)) w := by
    intro w; rw [index_strN l hb pos hp]; simp [TxtMath.byteAt]
  have HD1 : Hid (TxtMath.byteAt (l.drop pos) 0 < 128 → _) := fun h => TxtMath.dec_low h
  have HD2 : Hid ((128 ≤ TxtMath.byteAt (l.drop pos) 0 ∧ TxtMath.byteAt (l.drop pos) 0 < 192) ∨ 248 ≤ TxtMath.byteAt (l.drop pos) 0 → _) := fun h => TxtMath.dec_other h
  have hby : TxtMath.byteAt (l.drop pos) 0 < 256 := by
    unfold TxtMath.byteAt
    rcases h : (l.drop pos)[0]? with _ | c
    · simp
    · exact hb c (List.mem_of_mem_drop (List.mem_of_getElem? h))
  generalize l.drop pos = t at *
  generalize TxtMath.byteAt t 0 = c at *
  by_cases hc : c < 128
  · go_enter Tryz.func62, Tryz.ntmps62
    go_wp2
    go_ret2
    rw [HD1.out hc]
    exact ⟨rfl, rfl⟩
  · rcases h1 with h1 | h1
    all_goals
      go_enter Tryz.func62, Tryz.ntmps62
      go_wp2
      go_ret2
      rw [HD2.out (by omega)]
      exact ⟨rfl, rfl⟩
/-- next: the rune at a place and how many bytes it has. -/
theorem next_ref (l : List Nat) (pos : Nat) (w : World) (hb : ∀ c ∈ l, c < 256) (hp : pos < l.length) (hm : l.length ≤ 140737488355328) :
    Calls Tryz.prog 62 #[.string (strN l), .int .i64 (pos : Int)] w fun e w' => e = .returned (.tuple #[.int .i64 (((TxtMath.dec (l.drop pos)).1 : Nat) : Int), .int .i64 (((TxtMath.dec (l.drop pos)).2 : Nat) : Int)]) ∧ w' = w := by
  by_cases h1 : TxtMath.byteAt (l.drop pos) 0 < 192 ∨ 248 ≤ TxtMath.byteAt (l.drop pos) 0
  · exact next_plain l pos w hb hp h1
  · by_cases h2 : TxtMath.byteAt (l.drop pos) 0 < 224
    · exact next_two l pos w hb hp hm (by omega) h2
    · by_cases h3 : TxtMath.byteAt (l.drop pos) 0 < 240
      · exact next_three l pos w hb hp hm (by omega) h3
      · exact next_four l pos w hb hp hm (by omega) (by omega)
end Go.Proofs.YteockpllnhjooaaGreatDoor

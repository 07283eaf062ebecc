/-
  The walk of the law NumPuts, where what comes in is small: numbers are laid behind what there is, in as many bytes as Size says.
-/
import Derived.Test.YtomfbgeolflenaaWalkM
namespace Go.Proofs.Ytomfbgeolflenaa
open Go.RowKit NumMath
set_option linter.unusedVariables false
set_option linter.unusedSimpArgs false

set_option maxHeartbeats 1600000 in
theorem numPuts_walk (a : Option Addr) (zs : List Int) (cap : Nat) (al : Option Addr) (ls : List Int) (capl : Nat) (W : World) (hr : Row .u8 W a zs) (hc : zs.length ≤ cap) (hm : cap ≤ maxLen) (hn : a = none → cap = 0)
    (hw : ∀ n ∈ zs, (Lit.int .u8 n).wf = true) (hs : cap ≤ 1048576) (hrl : Row .u64 W al ls) (hcl : ls.length ≤ capl) (hml : capl ≤ maxLen) (hnl : al = none → capl = 0)
    (hwl : ∀ n ∈ ls, (Lit.int .u64 n).wf = true) (hsl : capl ≤ 1048576) :
    Calls Try.prog 3 #[.slice a zs.length cap, .slice al ls.length capl] W fun e w' => e = .returned (.bool true) ∧ Below W.heap.size W w' := by
  have hlb := u64s hwl
  obtain ⟨m, hmz⟩ : ∃ m, m = zs.length := ⟨_, rfl⟩
  obtain ⟨n, hnz⟩ : ∃ n, n = ls.length := ⟨_, rfl⟩
  have HM : Hid (m = zs.length) := hmz
  have HN : Hid (n = ls.length) := hnz
  obtain ⟨T, hT⟩ : ∃ T, T = (F zs ls n).length := ⟨_, rfl⟩
  have hTm : T = m + (F [] ls n).length := by rw [hT, hmz]; simp [F]
  have HT : Hid (T = m + (F [] ls n).length) := hTm
  have hput : ∀ w1, Below W.heap.size W w1 → Calls Try.prog 12 #[.slice a m cap, .slice al n capl] w1 fun e w' => ∃ g, e = .returned (.slice (some ⟨g, 0, none⟩) T T) ∧
      (∀ w'', Below w'.heap.size w' w'' → (convert 22 9 (.slice (some ⟨g, 0, none⟩) T T)).run Try.prog w'' = .ok (.string (strOfNums (F zs ls n))) w'') ∧ Below W.heap.size W w' := by
    intro w1 hb
    rw [hmz, hnz]
    refine (put_own a al zs ls cap capl w1 (F zs ls n) T (by rw [hnz]; exact (F_all zs ls).symm) hT.symm (hr.later hb) (by omega) hm hn (hrl.later hb) hlb (by omega) hml (by omega)).mono ?_
    rintro e w' ⟨g, rfl, hown, hb2⟩
    refine ⟨g, rfl, fun w'' hb3 => ?_, hb.trans (hb2.mono hb.size)⟩
    have hrp : Row .u8 w' (some ⟨g, 0, none⟩) (F zs ls n) := by
      have := own_row hown T (Nat.le_refl _)
      rwa [List.take_of_length_le (by omega)] at this
    have := row_string (cap := T) (hrp.later hb3)
    rw [← hT, hnz] at this
    exact this
  have href : ∀ w1, Below W.heap.size W w1 → Calls Try.prog 13 #[.slice a m cap, .slice al n capl] w1 fun e w' => ∃ v, e = .returned v ∧
      (convert 22 9 v).run Try.prog w' = .ok (.string (strOfNums (F zs ls n))) w' ∧ Below w1.heap.size w1 w' := by
    intro w1 hb
    rw [hmz, hnz]
    refine (refPut_any a al zs ls cap capl w1 (hr.later hb) (by omega) hm hn (hrl.later hb) hlb (by omega) hml (by omega)).mono ?_
    rw [← F_all]
    rintro e w' ⟨v, rfl, hown, hb2⟩
    exact ⟨v, rfl, own_string hown, hb2⟩
  have hat : ∀ j, j < n → ∃ b off, al = some ⟨b, off, none⟩ ∧ W.cell? ⟨b, off + j, none⟩ = some (.int .u64 (ls[j]?.getD 0)) := by
    intro j hj
    rcases hrl with h | ⟨b, off, ha, hcell⟩
    · rw [h] at hnz; simp at hnz; omega
    · exact ⟨b, off, ha, by simpa using hcell j (by omega)⟩
  have hFl := F_le [] ls n
  simp only [List.length_nil, Nat.zero_add] at hFl
  have hmb : m ≤ 1048576 := by omega
  have hnb : n ≤ 1048576 := by omega
  have HPUT : Hid _ := hput
  have HREF : Hid _ := href
  have HAT : Hid (∀ j, j < n → ∃ b off, al = some ⟨b, off, none⟩ ∧ W.cell? ⟨b, off + j, none⟩ = some (.int .u64 (ls[j]?.getD 0))) := hat
  rw [← hmz, ← hnz]
  clear hput href hat hmz hnz hT hTm hw hwl hr hrl hc hcl
  go_enter Try.func3, Try.ntmps3
  go_wp2_with fail
  refine (known_any _).mono ?_
  rintro e w1 ⟨rfl, hb1⟩
  go_wp2
  go_loop [5, 6] (fun s i => ∃ k : Nat, k ≤ n ∧ i = .int .i64 k ∧ s = .int .i64 ((F [] ls k).length : Int)) (fun _ i => n - (intOf i).toNat)
  case atStart => exact ⟨0, by omega, rfl, by simp [F]⟩
  case round =>
    obtain ⟨k, hk, rfl, rfl⟩ := hrel
    by_cases hlt : k < n
    · obtain ⟨b, off, hal, hcl⟩ := HAT.out k hlt
      obtain ⟨V, hV⟩ : ∃ V, V = ls[k]?.getD 0 := ⟨_, rfl⟩
      rw [← hV] at hcl
      have hcx : w1.cell? ⟨b, off + k, none⟩ = some (.int .u64 V) := (hb1.cell (World.block_lt_of_cell? W _ hcl)).trans hcl
      have hVb : 0 ≤ V ∧ V ≤ 18446744073709551615 := by rw [hV]; exact hlb _ (mem_getD ls k (by have := HN.out; omega))
      have hD := D_len V
      have hF := F_le [] ls k
      simp only [List.length_nil, Nat.zero_add] at hF
      have HF : Hid ((F [] ls (k + 1)).length = (F [] ls k).length + (D V).length) := by rw [hV]; exact F_len_succ [] ls k (by have := HN.out; omega)
      subst hal
      clear hV hcl
      go_wp2_with (go_at_call 11; refine (size_any _ _ (by omega) (by omega)).mono ?_; rintro e w' ⟨rfl, rfl⟩)
      go_round
      case rel => exact ⟨k + 1, by omega, by go_num, by rw [HF.out]; go_num⟩
      case measure => simp [intOf]; omega
    · have hkn : k = n := by omega
      subst hkn
      generalize hS : (F [] ls k).length = S at *
      clear hS
      go_wp2_with (go_at_call 12; refine Calls.mono (HPUT.out _ hb1) ?_; rintro e w2 ⟨g, rfl, hcv, hb2⟩)
      have hs0 := hcv w2.drew (Below.refl _ _).drew
      have hTS : (T : Int) - (m : Int) = (S : Int) := by have := HT.out; omega
      have hwS : IntKind.i64.wrap (S : Int) = (S : Int) := IntWalk.i64_in _ ⟨by omega, by have := HT.out; omega⟩
      have HREF2 : Hid _ := HREF.out w2.drew hb2.drew
      have HCV : Hid _ := hcv
      have hTb : T ≤ 104857600 := by have := HT.out; omega
      clear hcv HREF HPUT
      refine wp_region_held_drew (S := fun w => (convert 22 9 (.slice (some ⟨g, 0, none⟩) T T)).run Try.prog w = .ok (.string (strOfNums (F zs ls k))) w) (by kernel_rfl) hs0 (fun hS => ?_)
      refine wpAnyH_take (i := 0) (v := ?_) rfl (by kernel_rfl) (by kernel_rfl) (by kernel_rfl) (fun _ _ _ h => h) (Or.inl ⟨by rfl, ?_⟩) hS ?_
      rotate_left 1
      · intro w hSw; (try dsimp only at hSw); go_simp <;> with_reducible rfl
      simp only [List.getElem_toArray, List.getElem_cons_zero, List.getElem_cons_succ, Act.put, List.setIfInBounds_toArray, List.set_cons_zero, List.set_cons_succ]
      refine wpAnyH_take (i := 1) (v := ?_) rfl (by kernel_rfl) (by kernel_rfl) (by kernel_rfl) (fun _ _ _ h => h) (Or.inl ⟨by rfl, ?_⟩) hS ?_
      rotate_left 1
      · intro w hSw; (try dsimp only at hSw); go_simp <;> with_reducible rfl
      simp only [List.getElem_toArray, List.getElem_cons_zero, List.getElem_cons_succ, Act.put, List.setIfInBounds_toArray, List.set_cons_zero, List.set_cons_succ]
      refine wpAnyH_take (i := 2) (v := ?_) rfl (by kernel_rfl) (by kernel_rfl) (by kernel_rfl) (fun _ _ _ h => h) (Or.inl ⟨by rfl, ?_⟩) hS ?_
      rotate_left 1
      · intro w hSw; (try dsimp only at hSw); go_simp <;> with_reducible rfl
      simp only [List.getElem_toArray, List.getElem_cons_zero, List.getElem_cons_succ, Act.put, List.setIfInBounds_toArray, List.set_cons_zero, List.set_cons_succ]
      refine wpAnyH_take (i := 3) (v := ?_) rfl (by kernel_rfl) (by kernel_rfl) (by kernel_rfl) (fun _ _ _ h => h) (Or.inl ⟨by rfl, ?_⟩) hS ?_
      rotate_left 1
      · intro w hSw; (try dsimp only at hSw); go_simp <;> with_reducible rfl
      simp only [List.getElem_toArray, List.getElem_cons_zero, List.getElem_cons_succ, Act.put, List.setIfInBounds_toArray, List.set_cons_zero, List.set_cons_succ]
      refine wpAnyH_ready (rs := [4]) (by kernel_rfl) (by simp) ?_
      refine AllReadyH.cons rfl (fun K hK => ?_) AllReadyH.nil
      go_simp
      refine Calls.mono HREF2.out ?_
      rintro e w3 ⟨vr, rfl, s3, hb3⟩
      have hb3w : Below w2.heap.size w2 w3 := (Below.refl _ _).drew.trans hb3
      refine hK.out _ _ (HCV.out w3 hb3w) (fun hS0 => ?_)
      have hb3' : Below W.heap.size W w3 := hb2.trans (hb3w.mono hb2.size)
      clear hK K HREF2 HCV hs0 hb3
      try simp only [List.getElem_toArray, List.getElem_cons_zero, List.getElem_cons_succ, Act.put, List.setIfInBounds_toArray, List.set_cons_zero, List.set_cons_succ]
      refine wpAnyH_weaken (S2 := fun w => w = w3) (fun w h => by rw [h]; exact hS0) _ _ _ _ ?_
      have hS : w3 = w3 := rfl
      refine wpAnyH_take (i := 5) (v := ?_) rfl (by kernel_rfl) (by kernel_rfl) (by kernel_rfl) (fun _ _ _ h => h) (Or.inl ⟨by rfl, ?_⟩) hS ?_
      rotate_left 1
      · intro w hSw; (try dsimp only at hSw); go_simp <;> with_reducible rfl
      simp only [List.getElem_toArray, List.getElem_cons_zero, List.getElem_cons_succ, Act.put, List.setIfInBounds_toArray, List.set_cons_zero, List.set_cons_succ]
      refine wpAnyH_take (i := 6) (v := ?_) rfl (by kernel_rfl) (by kernel_rfl) (by kernel_rfl) (fun _ _ _ h => h) (Or.inl ⟨by rfl, ?_⟩) hS ?_
      rotate_left 1
      · intro w hSw; (try dsimp only at hSw); go_simp <;> with_reducible rfl
      simp only [List.getElem_toArray, List.getElem_cons_zero, List.getElem_cons_succ, Act.put, List.setIfInBounds_toArray, List.set_cons_zero, List.set_cons_succ]
      refine wpAnyH_take (i := 7) (v := ?_) rfl (by kernel_rfl) (by kernel_rfl) (by kernel_rfl) (fun _ _ _ h => h) (Or.inl ⟨by rfl, ?_⟩) hS ?_
      rotate_left 1
      · intro w hSw; (try dsimp only at hSw); go_simp <;> with_reducible rfl
      simp only [List.getElem_toArray, List.getElem_cons_zero, List.getElem_cons_succ, Act.put, List.setIfInBounds_toArray, List.set_cons_zero, List.set_cons_succ]
      refine wpAnyH_take (i := 8) (v := ?_) rfl (by kernel_rfl) (by kernel_rfl) (by kernel_rfl) (fun _ _ _ h => h) (Or.inl ⟨by rfl, ?_⟩) hS ?_
      rotate_left 1
      · intro w hSw; (try dsimp only at hSw); go_simp <;> with_reducible rfl
      simp only [List.getElem_toArray, List.getElem_cons_zero, List.getElem_cons_succ, Act.put, List.setIfInBounds_toArray, List.set_cons_zero, List.set_cons_succ]
      refine wpAnyH_take (i := 9) (v := ?_) rfl (by kernel_rfl) (by kernel_rfl) (by kernel_rfl) (fun _ _ _ h => h) (Or.inl ⟨by rfl, ?_⟩) hS ?_
      rotate_left 1
      · intro w hSw; (try dsimp only at hSw); go_simp <;> with_reducible rfl
      simp only [List.getElem_toArray, List.getElem_cons_zero, List.getElem_cons_succ, Act.put, List.setIfInBounds_toArray, List.set_cons_zero, List.set_cons_succ]
      refine wpAnyH_take (i := 10) (v := ?_) rfl (by kernel_rfl) (by kernel_rfl) (by kernel_rfl) (fun _ _ _ h => h) (Or.inl ⟨by rfl, ?_⟩) hS ?_
      rotate_left 1
      · intro w hSw; (try dsimp only at hSw); go_simp <;> with_reducible rfl
      simp only [List.getElem_toArray, List.getElem_cons_zero, List.getElem_cons_succ, Act.put, List.setIfInBounds_toArray, List.set_cons_zero, List.set_cons_succ]
      refine wpAnyH_take (i := 11) (v := ?_) rfl (by kernel_rfl) (by kernel_rfl) (by kernel_rfl) (fun _ _ _ h => h) (Or.inl ⟨by rfl, ?_⟩) hS ?_
      rotate_left 1
      · intro w hSw; (try dsimp only at hSw); go_simp <;> with_reducible rfl
      simp only [List.getElem_toArray, List.getElem_cons_zero, List.getElem_cons_succ, Act.put, List.setIfInBounds_toArray, List.set_cons_zero, List.set_cons_succ]
      refine wpAnyH_take (i := 12) (v := ?_) rfl (by kernel_rfl) (by kernel_rfl) (by kernel_rfl) (fun _ _ _ h => h) (Or.inl ⟨by rfl, ?_⟩) hS ?_
      rotate_left 1
      · intro w hSw; (try dsimp only at hSw); go_simp <;> with_reducible rfl
      simp only [List.getElem_toArray, List.getElem_cons_zero, List.getElem_cons_succ, Act.put, List.setIfInBounds_toArray, List.set_cons_zero, List.set_cons_succ]
      refine wpAnyH_take (i := 13) (v := ?_) rfl (by kernel_rfl) (by kernel_rfl) (by kernel_rfl) (fun _ _ _ h => h) (Or.inl ⟨by rfl, ?_⟩) hS ?_
      rotate_left 1
      · intro w hSw; (try dsimp only at hSw); go_simp <;> with_reducible rfl
      simp only [List.getElem_toArray, List.getElem_cons_zero, List.getElem_cons_succ, Act.put, List.setIfInBounds_toArray, List.set_cons_zero, List.set_cons_succ]
      refine wpAnyH_take (i := 14) (v := ?_) rfl (by kernel_rfl) (by kernel_rfl) (by kernel_rfl) (fun _ _ _ h => h) (Or.inl ⟨by rfl, ?_⟩) hS ?_
      rotate_left 1
      · intro w hSw; (try dsimp only at hSw); go_simp <;> with_reducible rfl
      simp only [List.getElem_toArray, List.getElem_cons_zero, List.getElem_cons_succ, Act.put, List.setIfInBounds_toArray, List.set_cons_zero, List.set_cons_succ]
      refine wpAnyH_take (i := 15) (v := ?_) rfl (by kernel_rfl) (by kernel_rfl) (by kernel_rfl) (fun _ _ _ h => h) (Or.inl ⟨by rfl, ?_⟩) hS ?_
      rotate_left 1
      · intro w hSw; (try dsimp only at hSw); go_simp <;> with_reducible rfl
      simp only [List.getElem_toArray, List.getElem_cons_zero, List.getElem_cons_succ, Act.put, List.setIfInBounds_toArray, List.set_cons_zero, List.set_cons_succ]
      refine wpAnyH_take (i := 16) (v := ?_) rfl (by kernel_rfl) (by kernel_rfl) (by kernel_rfl) (fun _ _ _ h => h) (Or.inl ⟨by rfl, ?_⟩) hS ?_
      rotate_left 1
      · intro w hSw; (try dsimp only at hSw); go_simp <;> with_reducible rfl
      simp only [List.getElem_toArray, List.getElem_cons_zero, List.getElem_cons_succ, Act.put, List.setIfInBounds_toArray, List.set_cons_zero, List.set_cons_succ]
      refine wpAnyH_done (by kernel_rfl) ?_ _
      go_wp2
      go_ret
      exact ⟨rfl, hb3'⟩
end Go.Proofs.Ytomfbgeolflenaa

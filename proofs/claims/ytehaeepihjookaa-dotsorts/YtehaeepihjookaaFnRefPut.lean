/-
  Walk of newsreelref1.Put.
-/
import Derived.Test.YtehaeepihjookaaKit
namespace Go.Proofs.Ytehaeepihjookaa
open Go.RowKit NumMath
set_option maxRecDepth 100000
set_option linter.unusedVariables false
set_option linter.unusedSimpArgs false

theorem byte_and {V : Int} (h0 : 0 ≤ V) (h1 : V ≤ 18446744073709551615) : bits .and .u64 V 127 = V % 128 := by
  rw [u64_and V 127 (by omega) (by omega) (by omega) (by omega)]
  rw [show (127 : Int).toNat = 127 from rfl, and127]
  omega

set_option maxHeartbeats 800000 in
theorem refPut_any (a al : Option Addr) (zs ls : List Int) (cap capl : Nat) (w : World) (hr : Row .u8 w a zs) (hc : zs.length ≤ cap) (hm : cap ≤ maxLen) (hnil : a = none → cap = 0)
    (hl : Row .u64 w al ls) (hlb : ∀ c ∈ ls, 0 ≤ c ∧ c ≤ 18446744073709551615) (hlc : ls.length ≤ capl) (hlm : capl ≤ maxLen) (hsz : zs.length + 10 * ls.length ≤ 140737488355328) :
    Calls Try.prog 19 #[.slice a zs.length cap, .slice al ls.length capl] w fun e w' => ∃ v, e = .returned v ∧
      w'.ownsRow w.heap.size 5 1 v (zs ++ ls.flatMap D).length ((zs ++ ls.flatMap D).map (Value.int .u8)) ∧ Below w.heap.size w w' := by
  obtain ⟨i0, hi, hz0, hz1, hz2⟩ := info_parts Try.info5
  unfold maxLen at hm hlm
  have hnil' : a = none → zs.length = 0 ∧ cap = 0 := fun h => by have := hnil h; omega
  rcases hl with rfl | ⟨b, off, rfl, hcell⟩
  · rw [List.flatMap_nil, List.append_nil]
    obtain ⟨m, hmz⟩ : ∃ m, m = zs.length := ⟨_, rfl⟩
    rw [← hmz] at hc hsz hnil' ⊢
    simp only [List.length_nil] at hsz ⊢
    have HM : Hid (m = zs.length) := hmz
    have HNL : Hid (a = none → m = 0 ∧ cap = 0) := hnil'
    clear hmz hnil hnil'
    go_enter Try.func19, Try.ntmps19
    go_wp2_with (at_builtin; refine wpList_append_own_any rfl _ (.tmp 8) 34 rfl w.heap.size 5 i0 (.int .u8 0) 1 1 Try.underlying34 hi hz0 hz1 hz2 rfl (by decide) (.slice none 0 0) 0 [] rfl (World.ownsRow_nil _ _ _ _) a m cap (zs.map (Value.int .u8)) rfl (by rw [List.length_map, Nat.mul_one]; exact HM.out.symm) HNL.out hr.news (ints_oneCell _ _) (by unfold maxLen; omega) (by omega) (Nat.le_refl _) ?_; intro v1 w1 hown1 hgrow1)
    refine wp_loop_rounds 1 ?_
    rw [rounds_succ]
    have hb1 : Below w.heap.size w w1 := (Below.refl _ _).grown hgrow1 (Nat.le_refl _) (fun k hk => by simp [Value.ownBlock] at hk)
    simp only [Nat.zero_add, List.nil_append] at hown1
    clear hgrow1
    go_wp2
    go_ret
    exact ⟨v1, rfl, hown1, hb1⟩
  · obtain ⟨n, hn⟩ : ∃ n, n = ls.length := ⟨_, rfl⟩
    obtain ⟨m, hmz⟩ : ∃ m, m = zs.length := ⟨_, rfl⟩
    rw [← F_all, ← hn, ← hmz]
    rw [← hmz] at hnil'
    have HN : Hid (n = ls.length) := hn
    have HM : Hid (m = zs.length) := hmz
    have HNL : Hid (a = none → m = 0 ∧ cap = 0) := hnil'
    rw [← hn] at hcell
    have hsz2 : m + 10 * n ≤ 140737488355328 := by omega
    have hmc : m ≤ cap := by omega
    have hnc : n ≤ capl := by omega
    have HCELL : Hid (∀ i, i < n → w.cell? ⟨b, off + i, none⟩ = some (.int .u64 (ls.getD i 0))) := hcell
    clear hn hmz hsz hc hlc hcell hnil hnil'
    go_enter Try.func19, Try.ntmps19
    go_wp2_with (at_builtin; refine wpList_append_own_any rfl _ (.tmp 8) 34 rfl w.heap.size 5 i0 (.int .u8 0) 1 1 Try.underlying34 hi hz0 hz1 hz2 rfl (by decide) (.slice none 0 0) 0 [] rfl (World.ownsRow_nil _ _ _ _) a m cap (zs.map (Value.int .u8)) rfl (by rw [List.length_map, Nat.mul_one]; exact HM.out.symm) HNL.out hr.news (ints_oneCell _ _) (by unfold maxLen; omega) (by omega) (Nat.le_refl _) ?_; intro v1 w1 hown1 hgrow1)
    have hb1 : Below w.heap.size w w1 := (Below.refl _ _).grown hgrow1 (Nat.le_refl _) (fun k hk => by simp [Value.ownBlock] at hk)
    simp only [Nat.zero_add, List.nil_append] at hown1
    clear hgrow1 hr
    go_loopw [5, 6] (fun out i wr => ∃ (q : Nat) (P : List Int), q ≤ n ∧ i = .int .i64 q ∧ P = F zs ls q ∧
        wr.ownsRow w.heap.size 5 1 out P.length (P.map (Value.int .u8)) ∧ Below w.heap.size w wr) (fun _ i _ => n - (intOf i).toNat)
    case atStart => exact ⟨0, zs, by omega, rfl, (F_zero zs ls).symm, by rw [← HM.out]; exact hown1, hb1⟩
    case round =>
      obtain ⟨q, P, hq, rfl, hP, hown, hnx⟩ := hrel
      have HP : Hid (P = F zs ls q) := hP
      clear hP hown1 hb1
      by_cases hlt2 : q < n
      · obtain ⟨V, hV⟩ : ∃ V, V = ls[q]?.getD 0 := ⟨_, rfl⟩
        have hcx0 : w.cell? ⟨b, off + q, none⟩ = some (.int .u64 V) := by rw [hV]; simpa using HCELL.out q hlt2
        have hcx : wr.cell? ⟨b, off + q, none⟩ = some (.int .u64 V) := (hnx.cell (World.block_lt_of_cell? w _ hcx0)).trans hcx0
        have hVb : 0 ≤ V ∧ V ≤ 18446744073709551615 := by rw [hV]; exact hlb _ (mem_getD ls q (by have := HN.out; omega))
        have HF : Hid (F zs ls (q + 1) = F zs ls q ++ D V) := by rw [hV]; exact F_succ zs ls q (by have := HN.out; omega)
        have HFT : Hid ((F zs ls (q + 1)).length ≤ 140737488355328) := by
          have := F_le zs ls (q + 1)
          rw [← HM.out] at this
          show (F zs ls (q + 1)).length ≤ 140737488355328
          omega
        clear hV hcx0
        go_wp2
        go_loopw [5, 7] (fun out v wi => ∃ (U : Int) (R : List Int), 0 ≤ U ∧ U ≤ 18446744073709551615 ∧ v = .int .u64 U ∧ R ++ D U = F zs ls (q + 1) ∧
          wi.ownsRow w.heap.size 5 1 out R.length (R.map (Value.int .u8)) ∧ Below w.heap.size w wi) (fun _ v _ => (intOf v).toNat)
        case atStart => exact ⟨V, P, hVb.1, hVb.2, rfl, by rw [HF.out, HP.out], hown, hnx⟩
        case round =>
          obtain ⟨U, R, hU0, hU1, rfl, hR, hownR, hnxR⟩ := hrel
          have hRl : R.length + (D U).length = (F zs ls (q + 1)).length := by rw [← hR]; simp
          have hDU := D_len U
          have hroom : R.length + 1 ≤ 140737488355328 := by have := HFT.out; omega
          have HR : Hid (R ++ D U = F zs ls (q + 1)) := hR
          have hsz3 := hnxR.size
          clear hR hRl hown hnx hcx
          by_cases hge : 127 < U
          · have hbyte := byte_and hU0 hU1
            go_wp2_with (at_builtin; refine wpList_append_own _ rfl (.tmp 22) (.tmp 27) 34 rfl w.heap.size 5 i0 (.int .u8 0) 1 1 Try.underlying34 hi hz0 hz1 hz2 rfl (by decide) _ R.length _ rfl (hownR.alloc _) ⟨wr.heap.size, 0, none⟩ 1 1 [.int .u8 (U % 128 + 128)] rfl rfl (one_new _ _ _) (one_cell _ _) (by unfold maxLen; omega) (by omega) (by simp; omega) ?_; intro v2 w2 hown2 hgrow2 _)
            have hb2 : Below w.heap.size w w2 := (hnxR.alloc hnxR.size _).grown hgrow2 (by simp; omega) (own_ge hownR)
            clear hgrow2 hownR hbyte
            go_roundw
            case rel => exact ⟨U / 128, R ++ [U % 128 + 128], by omega, by omega, rfl, by rw [← HR.out, D_step hU0 hU1 (by omega)]; simp, by simpa using hown2, hb2⟩
            case measure => simp [intOf]; omega
          · go_wp2_with (at_builtin; refine wpList_append_own _ rfl (.tmp 31) (.tmp 34) 34 rfl w.heap.size 5 i0 (.int .u8 0) 1 1 Try.underlying34 hi hz0 hz1 hz2 rfl (by decide) _ R.length _ rfl (hownR.alloc _) ⟨wr.heap.size, 0, none⟩ 1 1 [.int .u8 U] rfl rfl (one_new _ _ _) (one_cell _ _) (by unfold maxLen; omega) (by omega) (by simp; omega) ?_; intro v2 w2 hown2 hgrow2 _)
            have hb2 : Below w.heap.size w w2 := (hnxR.alloc hnxR.size _).grown hgrow2 (by simp; omega) (own_ge hownR)
            clear hgrow2 hownR
            go_roundw
            case rel => exact ⟨q + 1, R ++ [U], by omega, by go_num, by rw [← HR.out, D_small (by omega)], by simpa using hown2, hb2⟩
            case measure => simp [intOf]; omega
      · have hqn : q = n := by omega
        have HPE : Hid (P = F zs ls n) := by show P = _; rw [HP.out, hqn]
        clear hqn
        go_wp2
        go_ret
        rw [HPE.out] at hown
        exact ⟨_, rfl, hown, hnx⟩

end Go.Proofs.Ytehaeepihjookaa

/-
  Walk of num.Put.
-/
import Derived.Test.YtehaeepihjookaaFnSize
namespace Go.Proofs.Ytehaeepihjookaa
open Go.RowKit NumMath
set_option maxRecDepth 100000
set_option linter.unusedVariables false
set_option linter.unusedSimpArgs false

theorem byte_or {V : Int} (h0 : 0 ≤ V) : bits .or .u8 (V % 256) 128 = V % 128 + 128 := by
  rw [u8_or (V % 256) 128 (by omega) (by omega) (by omega) (by omega)]
  have := or128 (V % 256).toNat (by omega)
  rw [show (128 : Int).toNat = 128 from rfl, this]
  omega

set_option maxHeartbeats 800000 in
theorem put_any (a al : Option Addr) (zs ls : List Int) (cap capl : Nat) (w : World) (hr : Row .u8 w a zs) (hc : zs.length ≤ cap) (hm : cap ≤ maxLen) (hnil : a = none → cap = 0)
    (hl : Row .u64 w al ls) (hlb : ∀ c ∈ ls, 0 ≤ c ∧ c ≤ 18446744073709551615) (hlc : ls.length ≤ capl) (hlm : capl ≤ maxLen) (hsz : zs.length + 10 * ls.length ≤ 140737488355328) :
    Calls Try.prog 30 #[.slice a zs.length cap, .slice al ls.length capl] w fun e w' => e = .returned (.slice (some ⟨w.heap.size, 0, none⟩) (zs ++ ls.flatMap D).length (zs ++ ls.flatMap D).length) ∧
      w'.ownsRow w.heap.size 5 1 (.slice (some ⟨w.heap.size, 0, none⟩) (zs ++ ls.flatMap D).length (zs ++ ls.flatMap D).length) (zs ++ ls.flatMap D).length ((zs ++ ls.flatMap D).map (Value.int .u8)) ∧ Below w.heap.size w w' := by
  obtain ⟨i0, hi, hz0, hz1, hz2⟩ := info_parts Try.info5
  unfold maxLen at hm hlm
  rcases hl with rfl | ⟨b, off, rfl, hcell⟩
  · rw [List.flatMap_nil, List.append_nil]
    obtain ⟨m, hmz⟩ : ∃ m, m = zs.length := ⟨_, rfl⟩
    rw [← hmz] at hc hsz ⊢
    simp only [List.length_nil] at hsz ⊢
    have HM : Hid (m = zs.length) := hmz
    clear hmz
    go_enter Try.func30, Try.ntmps30
    go_wp2
    refine wp_loop_rounds 1 ?_
    rw [rounds_succ]
    go_wp2_with (first
      | (at_make; refine wpList_make_own _ rfl _ _ 34 rfl w.heap.size 5 i0 (.int .u8 0) 1 Try.underlying34 hi hz0 hz1 _ _ _ m rfl rfl (by omega) (by rw [hz2]; omega) (by unfold maxLen; omega) (Nat.le_refl _) ?_; intro w0 hown0 hgrow0)
      | (at_builtin; refine wpList_append_fits_any _ rfl (.tmp 26) (.tmp 27) 34 rfl w.heap.size 5 i0 1 Try.underlying34 hi hz1 w.heap.size 0 m _ rfl hown0 a m cap (zs.map (Value.int .u8)) rfl (by rw [List.length_map, Nat.mul_one]; exact HM.out.symm) (by intro h; have := hnil h; omega) (hr.later ((Below.refl _ _).grown hgrow0 (Nat.le_refl _) (fun k h => by cases h))).news (ints_oneCell _ _) (by omega) ?_; intro w1 hown1 hgrow1))
    refine wp_loop_rounds 1 ?_
    rw [rounds_succ]
    have hb1 : Below w.heap.size w w1 := ((Below.refl _ _).grown hgrow0 (Nat.le_refl _) (fun k h => by cases h)).grown hgrow1 hgrow0.size (fun k hk => by cases hk; exact Nat.le_refl _)
    simp only [Nat.zero_add, List.nil_append] at hown1
    go_wp2
    go_ret
    exact ⟨by simp, hown1, hb1⟩
  · obtain ⟨n, hn⟩ : ∃ n, n = ls.length := ⟨_, rfl⟩
    obtain ⟨m, hmz⟩ : ∃ m, m = zs.length := ⟨_, rfl⟩
    obtain ⟨T, hT⟩ : ∃ T, T = (F zs ls ls.length).length := ⟨_, rfl⟩
    rw [← F_all, ← hT, ← hn, ← hmz]
    have HN : Hid (n = ls.length) := hn
    have HM : Hid (m = zs.length) := hmz
    have HTT : Hid (T = (F zs ls ls.length).length) := hT
    have hT1 := F_le zs ls ls.length
    rw [← hn] at hcell
    have hsz2 : m + 10 * n ≤ 140737488355328 := by omega
    have hTle : T ≤ m + 10 * n := by omega
    have hmc : m ≤ cap := by omega
    have hnc : n ≤ capl := by omega
    have HCELL : Hid (∀ i, i < n → w.cell? ⟨b, off + i, none⟩ = some (.int .u64 (ls.getD i 0))) := hcell
    clear hn hmz hT hT1 hsz hc hlc hcell
    go_enter Try.func30, Try.ntmps30
    go_wp2
    go_loop [5, 15] (fun s i => ∃ k : Nat, k ≤ n ∧ i = .int .i64 k ∧ s = .int .i64 ((F zs ls k).length : Int)) (fun _ i => n - (intOf i).toNat)
    case atStart => exact ⟨0, by omega, rfl, by rw [F_zero, ← HM.out]⟩
    case round =>
      obtain ⟨k, hk, rfl, rfl⟩ := hrel
      by_cases hlt : k < n
      · obtain ⟨V, hV⟩ : ∃ V, V = ls[k]?.getD 0 := ⟨_, rfl⟩
        have hcx : w.cell? ⟨b, off + k, none⟩ = some (.int .u64 V) := by rw [hV]; simpa using HCELL.out k hlt
        have hVb : 0 ≤ V ∧ V ≤ 18446744073709551615 := by rw [hV]; exact hlb _ (mem_getD ls k (by have := HN.out; omega))
        have hD := D_len V
        have hF := F_le zs ls k
        rw [← HM.out] at hF
        have HF : Hid ((F zs ls (k + 1)).length = (F zs ls k).length + (D V).length) := by rw [hV]; exact F_len_succ zs ls k (by have := HN.out; omega)
        clear hV
        go_wp2_with (go_at_call 40; refine (size_any _ _ (by omega) (by omega)).mono ?_; rintro e w' ⟨rfl, rfl⟩)
        go_round
        case rel => exact ⟨k + 1, by omega, by go_num, by rw [HF.out]; go_num⟩
        case measure => simp [intOf]; omega
      · have hkn : k = n := by omega
        have hFT : (F zs ls k).length = T := by rw [HTT.out, hkn, HN.out]
        rw [hFT]
        clear hFT
        go_wp2_with (first
          | (at_make; refine wpList_make_own _ rfl _ _ 34 rfl w.heap.size 5 i0 (.int .u8 0) 1 Try.underlying34 hi hz0 hz1 _ _ _ T rfl rfl (by omega) (by rw [hz2]; omega) (by unfold maxLen; omega) (Nat.le_refl _) ?_; intro w0 hown0 hgrow0)
          | (at_builtin; refine wpList_append_fits_any _ rfl (.tmp 26) (.tmp 27) 34 rfl w.heap.size 5 i0 1 Try.underlying34 hi hz1 w.heap.size 0 T _ rfl hown0 a m cap (zs.map (Value.int .u8)) rfl ?h1 ?h2 ?h3 (ints_oneCell _ _) ?h4 ?_))
        case h1 => exact HM.out.symm
        case h2 => intro h; have := hnil h; omega
        case h3 =>
          have h := (hr.later ((Below.refl _ _).grown hgrow0 (Nat.le_refl _) (fun k h => by cases h))).news
          simpa using h
        case h4 => have := F_mono zs ls (Nat.zero_le ls.length); rw [F_zero, ← HTT.out, ← HM.out] at this; exact this
        intro w1 hown1 hgrow1
        have hb1 : Below w.heap.size w w1 := ((Below.refl _ _).grown hgrow0 (Nat.le_refl _) (fun k h => by cases h)).grown hgrow1 hgrow0.size (fun k hk => by cases hk; exact Nat.le_refl _)
        clear hgrow0 hgrow1 hown0 hr
        go_wp2
        go_loopw [8, 31] (fun out i wr => ∃ (q : Nat) (P : List Int), q ≤ n ∧ i = .int .i64 q ∧ out = .slice (some ⟨w.heap.size, 0, none⟩) P.length T ∧ P = F zs ls q ∧
            wr.ownsRow w.heap.size 5 1 (.slice (some ⟨w.heap.size, 0, none⟩) P.length T) P.length (P.map (Value.int .u8)) ∧ Below w.heap.size w wr) (fun _ i _ => n - (intOf i).toNat)
        case atStart => exact ⟨0, zs, by omega, rfl, by rw [← HM.out], (F_zero zs ls).symm, by rw [← HM.out]; exact hown1, hb1⟩
        case round =>
          obtain ⟨q, P, hq, rfl, rfl, hP, hown, hnx⟩ := hrel
          have HP : Hid (P = F zs ls q) := hP
          clear hP hown1 hb1
          by_cases hlt2 : q < n
          · obtain ⟨V, hV⟩ : ∃ V, V = ls[q]?.getD 0 := ⟨_, rfl⟩
            have hcx0 : w.cell? ⟨b, off + q, none⟩ = some (.int .u64 V) := by rw [hV]; simpa using HCELL.out q hlt2
            have hcx : wr.cell? ⟨b, off + q, none⟩ = some (.int .u64 V) := (hnx.cell (World.block_lt_of_cell? w _ hcx0)).trans hcx0
            have hVb : 0 ≤ V ∧ V ≤ 18446744073709551615 := by rw [hV]; exact hlb _ (mem_getD ls q (by have := HN.out; omega))
            have HF : Hid (F zs ls (q + 1) = F zs ls q ++ D V) := by rw [hV]; exact F_succ zs ls q (by have := HN.out; omega)
            have HFT : Hid ((F zs ls (q + 1)).length ≤ T) := by
              have := F_mono zs ls (show q + 1 ≤ ls.length by have := HN.out; omega)
              rw [← HTT.out] at this; exact this
            clear hV hcx0
            go_wp2
            go_loopw [8, 10] (fun out v wi => ∃ (U : Int) (R : List Int), 0 ≤ U ∧ U ≤ 18446744073709551615 ∧ v = .int .u64 U ∧ out = .slice (some ⟨w.heap.size, 0, none⟩) R.length T ∧ R ++ D U = F zs ls (q + 1) ∧
              wi.ownsRow w.heap.size 5 1 (.slice (some ⟨w.heap.size, 0, none⟩) R.length T) R.length (R.map (Value.int .u8)) ∧ Below w.heap.size w wi) (fun _ v _ => (intOf v).toNat)
            case atStart => exact ⟨V, P, hVb.1, hVb.2, rfl, rfl, by rw [HF.out, HP.out], hown, hnx⟩
            case round =>
              obtain ⟨U, R, hU0, hU1, rfl, rfl, hR, hownR, hnxR⟩ := hrel
              have hRl : R.length + (D U).length = (F zs ls (q + 1)).length := by rw [← hR]; simp
              have hDU := D_len U
              have hroom : R.length + 1 ≤ T := by have := HFT.out; omega
              have HR : Hid (R ++ D U = F zs ls (q + 1)) := hR
              clear hR hRl hown hnx hcx
              by_cases hge : 128 ≤ U
              · have hbyte := byte_or hU0
                go_wp2_with (at_builtin; refine wpList_append_fits _ rfl (.tmp 37) (.tmp 41) 34 rfl w.heap.size 5 i0 1 Try.underlying34 hi hz1 w.heap.size R.length T _ rfl (hownR.alloc _) ⟨wr.heap.size, 0, none⟩ 1 1 [.int .u8 (U % 128 + 128)] rfl rfl (one_new _ _ _) (one_cell _ _) hroom ?_; intro w2 hown2 hgrow2)
                have hb2 : Below w.heap.size w w2 := (hnxR.alloc hnxR.size _).grown hgrow2 (by simp; have := hnxR.size; omega) (fun k hk => by cases hk; exact Nat.le_refl _)
                clear hgrow2 hownR hbyte
                go_roundw
                case rel => exact ⟨U / 128, R ++ [U % 128 + 128], by omega, by omega, rfl, by simp, by rw [← HR.out, D_step hU0 hU1 (by omega)]; simp, by simpa using hown2, hb2⟩
                case measure => simp [intOf]; omega
              · go_wp2_with (at_builtin; refine wpList_append_fits _ rfl (.tmp 45) (.tmp 48) 34 rfl w.heap.size 5 i0 1 Try.underlying34 hi hz1 w.heap.size R.length T _ rfl (hownR.alloc _) ⟨wr.heap.size, 0, none⟩ 1 1 [.int .u8 U] rfl rfl (one_new _ _ _) (one_cell _ _) hroom ?_; intro w2 hown2 hgrow2)
                have hb2 : Below w.heap.size w w2 := (hnxR.alloc hnxR.size _).grown hgrow2 (by simp; have := hnxR.size; omega) (fun k hk => by cases hk; exact Nat.le_refl _)
                clear hgrow2 hownR
                go_roundw
                case rel => exact ⟨q + 1, R ++ [U], by omega, by go_num, by simp, by rw [← HR.out, D_small (by omega)], by simpa using hown2, hb2⟩
                case measure => simp [intOf]; omega
          · have hqn : q = n := by omega
            have HPE : Hid (P = F zs ls n) := by show P = _; rw [HP.out, hqn]
            have HPT : Hid (P.length = T) := by show P.length = T; rw [HPE.out, HN.out, ← HTT.out]
            clear hqn
            go_wp2
            go_ret
            have e := HPT.out
            rw [e, HPE.out] at hown
            exact ⟨by rw [← e]; rfl, hown, hnx⟩

/-- num.Put, its answer's address under a name of its own. -/
theorem put_own (a al : Option Addr) (zs ls : List Int) (cap capl : Nat) (w : World) (xs : List Int) (n : Nat) (hxs : zs ++ ls.flatMap D = xs) (hn : xs.length = n) (hr : Row .u8 w a zs) (hc : zs.length ≤ cap) (hm : cap ≤ maxLen) (hnil : a = none → cap = 0)
    (hl : Row .u64 w al ls) (hlb : ∀ c ∈ ls, 0 ≤ c ∧ c ≤ 18446744073709551615) (hlc : ls.length ≤ capl) (hlm : capl ≤ maxLen) (hsz : zs.length + 10 * ls.length ≤ 140737488355328) :
    Calls Try.prog 30 #[.slice a zs.length cap, .slice al ls.length capl] w fun e w' => ∃ g, e = .returned (.slice (some ⟨g, 0, none⟩) n n) ∧
      w'.ownsRow w.heap.size 5 1 (.slice (some ⟨g, 0, none⟩) n n) n (xs.map (Value.int .u8)) ∧ Below w.heap.size w w' := by
  refine (put_any a al zs ls cap capl w hr hc hm hnil hl hlb hlc hlm hsz).mono ?_
  subst hxs hn
  rintro e w' ⟨rfl, h1, h2⟩
  exact ⟨_, rfl, h1, h2⟩

theorem put_one (v : Int) : ([] : List Int) ++ [v].flatMap D = D v := by simp

end Go.Proofs.Ytehaeepihjookaa

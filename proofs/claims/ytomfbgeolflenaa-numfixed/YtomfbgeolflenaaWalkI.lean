/-
  The walk of the law NumBack: a number that was laid is read, whatever stands behind it, and no less of it is.
-/
import Derived.Test.YtomfbgeolflenaaWalkH
import Derived.Test.YtomfbgeolflenaaMathI
import Derived.OpenShut
namespace Go.Proofs.Ytomfbgeolflenaa
open Go.RowKit NumMath
set_option linter.unusedVariables false

/-- What is owned is a slice of whatever shape, and a row. -/
theorem own_shape {w : World} {base n : Nat} {v : Value} {xs : List Int} (h : w.ownsRow base 5 1 v n (xs.map (Value.int .u8))) :
    ∃ a c, v = .slice a xs.length c ∧ Row .u8 w a xs ∧ xs.length ≤ c ∧ c ≤ maxLen ∧ (a = none → c = 0) := by
  have hl : xs.length = n := by simpa using h.1
  rcases h.2 with ⟨rfl, h0⟩ | ⟨g, cap, cur, rfl, _, _, hnc, hcm, _⟩
  · have : xs = [] := List.eq_nil_of_length_eq_zero (by omega)
    subst this
    exact ⟨none, 0, rfl, .inl rfl, Nat.le_refl _, by decide, fun _ => rfl⟩
  · refine ⟨some ⟨g, 0, none⟩, cap, by rw [hl], ?_, by omega, hcm, fun h => by simp at h⟩
    have := own_row h n (Nat.le_refl _)
    rwa [List.take_of_length_le (by omega)] at this

theorem u8s {zs : List Int} (hw : ∀ n ∈ zs, (Lit.int .u8 n).wf = true) : ∀ c ∈ zs, 0 ≤ c ∧ c ≤ 255 := fun c hc => bounds_u8 (hw c hc)
theorem u64s {zs : List Int} (hw : ∀ n ∈ zs, (Lit.int .u64 n).wf = true) : ∀ c ∈ zs, 0 ≤ c ∧ c ≤ 18446744073709551615 := fun c hc => bounds_u64 (hw c hc)

theorem put_one (v : Int) : ([] : List Int) ++ [v].flatMap D = D v := by simp

set_option maxHeartbeats 800000 in
theorem numBack_walk (v : Int) (a : Option Addr) (zs : List Int) (cap : Nat) (W : World) (wv : (Lit.int .u64 v).wf = true) (hr : Row .u8 W a zs) (hc : zs.length ≤ cap) (hm : cap ≤ maxLen) (hn : a = none → cap = 0)
    (hw : ∀ n ∈ zs, (Lit.int .u8 n).wf = true) (hs : cap * 1 ≤ 140737488351232) :
    Calls Try.prog 5 #[.int .u64 v, .slice a zs.length cap] W fun e w' => e = .returned (.bool true) ∧ Below W.heap.size W w' := by
  obtain ⟨i0, hi, hz0, hz1, hz2⟩ := info_parts Try.info5
  obtain ⟨hv0, hv1⟩ := bounds_u64 wv
  have hzb := u8s hw
  have hnl : a = none → zs.length = 0 ∧ cap = 0 := fun h => by have := hn h; omega
  have hlen : zs.length ≤ 140737488351232 := by omega
  have hDl := D_len v
  clear wv hw hs
  go_enter Try.func5, Try.ntmps5
  go_wp2_with fail
  refine (known_any _).mono ?_
  rintro e w1 ⟨rfl, hb1⟩
  have hr1 := hr.later hb1
  go_wp2_with fail
  refine (put_own none (some ⟨w1.heap.size, 0, none⟩) [] [v] 0 1 _ (D v) (D v).length (put_one v) rfl (.inl rfl) (by decide) (by decide) (fun _ => rfl) (by exact lit_row _ .u64 [v] 26 _ rfl) (by simp; omega) (by simp) (by decide) (by simp)).mono ?_
  rintro e w2 ⟨g, rfl, hown2, hb2⟩
  have hrp : Row .u8 w2 (some ⟨g, 0, none⟩) (D v) := by
    have := own_row hown2 (D v).length (Nat.le_refl _)
    rwa [List.take_of_length_le (Nat.le_refl _)] at this
  have hr2 : Row .u8 w2 a zs := (hr1.later ((Below.refl _ _).alloc (Nat.le_refl _) _)).later hb2
  have hb2' : Below W.heap.size W w2 := (hb1.alloc hb1.size _).trans (hb2.mono (by have := hb1.size; simp; omega))
  clear hown2 hb2 hr1 hb1 hr
  generalize hk : (D v).length = k at *
  have HK : Hid ((D v).length = k) := hk
  clear hk
  go_wp2_with (first
    | (at_builtin; refine wpList_append_own_any rfl _ (.tmp 16) 22 rfl w2.heap.size 5 i0 (.int .u8 0) 1 1 Try.underlying22 hi hz0 hz1 hz2 rfl (by decide) (.slice none 0 0) 0 [] rfl (World.ownsRow_nil _ _ _ _) _ k k ((D v).map (Value.int .u8)) rfl (by rw [List.length_map, Nat.mul_one]; exact HK.out) (by intro h; cases h) hrp.news (ints_oneCell _ _) (by unfold maxLen; omega) (by omega) (Nat.le_refl _) ?_; intro v3 w3 hown3 hgrow3; have hb3 : Below w2.heap.size w2 w3 := (Below.refl _ _).grown hgrow3 (Nat.le_refl _) (fun k hk => by cases hk))
    | (at_builtin; refine wpList_append_own_any rfl (.tmp 17) (.tmp 18) 22 rfl w2.heap.size 5 i0 (.int .u8 0) 1 1 Try.underlying22 hi hz0 hz1 hz2 rfl (by decide) v3 _ _ rfl hown3 a zs.length cap (zs.map (Value.int .u8)) rfl (by rw [List.length_map, Nat.mul_one]) hnl (hr2.later hb3).news (ints_oneCell _ _) (by unfold maxLen; omega) (by omega) hb3.size ?_; intro v4 w4 hown4 hgrow4))
  have hb4 : Below w2.heap.size w2 w4 := hb3.grown hgrow4 hb3.size (own_ge hown3)
  rw [List.nil_append, ← List.map_append] at hown4
  obtain ⟨a4, c4, hv4, hr4, hc4, hm4, _⟩ := own_shape hown4
  subst hv4
  have hrp4 := hrp.later hb4
  have hb4' : Below W.heap.size W w4 := hb2'.trans (hb4.mono hb2'.size)
  clear hown3 hgrow3 hown4 hgrow4 hb3 hb4 hrp hr2 hb2' hnl hn
  have hall : ∀ c ∈ D v ++ zs, 0 ≤ c ∧ c ≤ 255 := by
    intro c hc
    rcases List.mem_append.1 hc with h | h
    · exact D_byte hv0 hv1 c h
    · exact hzb c h
  refine (take_any a4 (D v ++ zs) c4 w4 hr4 hall hc4 hm4).mono ?_
  rintro e w' ⟨rfl, rfl⟩
  rw [tak_back hv0 hv1 zs, HK.out]
  unfold takV
  clear hall hr4 hc4 hm4
  go_wp2_with (go_at_call 11; refine (size_any _ _ (by omega) (by omega)).mono ?_; rintro e w' ⟨rfl, rfl⟩; rw [HK.out])
  go_loop [9] (fun i => ∃ j : Nat, j ≤ k ∧ i = .int .i64 j) (fun i => k - (intOf i).toNat)
  case atStart => exact ⟨0, by omega, rfl⟩
  case round =>
    obtain ⟨j, hj, rfl⟩ := hrel
    by_cases hlt : j < k
    · have hlj : ((D v).take j).length = j := by rw [List.length_take, HK.out]; omega
      have hrj : Row .u8 w' (some ⟨g, 0, none⟩) ((D v).take j) := by
        rcases hrp4 with h | ⟨b, off, ha, hcell⟩
        · left; rw [h]; simp
        · refine .inr ⟨b, off, ha, fun i hi => ?_⟩
          rw [hlj] at hi
          have h1 := hcell i (by rw [HK.out]; omega)
          rw [h1]
          simp [hi]
      have hbj : ∀ c ∈ (D v).take j, 0 ≤ c ∧ c ≤ 255 := fun c hc => D_byte hv0 hv1 c (List.mem_of_mem_take hc)
      have ht := take_any (some ⟨g, 0, none⟩) ((D v).take j) k w' hrj hbj (by rw [hlj]; omega) (by unfold maxLen; omega)
      rw [hlj, tak_cut hv0 hv1 j (by rw [HK.out]; exact hlt)] at ht
      unfold takV at ht
      have HT : Hid _ := ht
      clear ht hlj hrj hbj hrp4
      go_wp2_with (go_at_call 15; refine Calls.mono HT.out ?_; rintro e w9 ⟨rfl, rfl⟩)
      go_round
      case rel => exact ⟨j + 1, by omega, by go_num⟩
      case measure => simp [intOf]; omega
    · go_wp2
      go_ret
      exact ⟨rfl, hb4'⟩
end Go.Proofs.Ytomfbgeolflenaa

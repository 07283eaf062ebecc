/-
  Walks of bytes.LastIndexByte and addr.withoutDots.
-/
import Derived.Test.YteockpllnhjooaaGreatDoorFnAddrF
import Derived.Lib.AppendStr
namespace Go.Proofs.YteockpllnhjooaaGreatDoor
open Go.RowKit NumMath
open AddrMath (pre post is No Ends splitD dotsGo join dots)
set_option maxRecDepth 100000
set_option linter.unusedVariables false
set_option linter.unusedSimpArgs false

/-- The last place of c in l, or -1. -/
def LastAt (c : Nat) (l : List Nat) (res : Int) : Prop := (∃ a g, l = a ++ c :: g ∧ No (is c) g ∧ res = a.length) ∨ (No (is c) l ∧ res = -1)
theorem LastAt.here {c : Nat} {l : List Nat} {res : Int} (h : LastAt c l res) {k : Nat} (hk : l[k]? = some c) (ha : ∀ j x : Nat, k < j → l[j]? = some x → x ≠ c) : res = k := by
  rcases h with ⟨a, g, rfl, hg, rfl⟩ | ⟨hn, _⟩
  · rcases Nat.lt_trichotomy k a.length with h1 | h1 | h1
    · exact absurd rfl (ha a.length c h1 (by simp))
    · rw [h1]
    · rw [List.getElem?_append_right (by omega)] at hk
      obtain ⟨d, hd⟩ : ∃ d, k - a.length = d + 1 := ⟨k - a.length - 1, by omega⟩
      rw [hd, List.getElem?_cons_succ] at hk
      have := hg c (List.mem_of_getElem? hk)
      simp [is] at this
  · have := hn c (List.mem_of_getElem? hk)
    simp [is] at this
theorem LastAt.none {c : Nat} {l : List Nat} {res : Int} (h : LastAt c l res) (ha : ∀ j x : Nat, l[j]? = some x → x ≠ c) : res = -1 := by
  rcases h with ⟨a, g, rfl, hg, rfl⟩ | ⟨_, h⟩
  · exact absurd rfl (ha a.length c (by simp))
  · exact h
theorem LastAt.range {c : Nat} {l : List Nat} {res : Int} (h : LastAt c l res) : -1 ≤ res ∧ res ≤ l.length := by
  rcases h with ⟨a, g, rfl, hg, rfl⟩ | ⟨_, rfl⟩
  · simp; omega
  · omega

set_option maxRecDepth 100000 in
set_option maxHeartbeats 4000000 in
theorem lastIndexByte_any (ao : Option Addr) (cap c : Nat) (l : List Nat) (res : Int) (w : World) (hr : VRow w ao (bv l)) (hc : l.length ≤ cap) (hm : cap ≤ maxLen) (hcb : c < 256) (hl : ∀ x ∈ l, x < 256) (hres : LastAt c l res) :
    Calls Tryz.prog 82 #[.slice ao l.length cap, .int .u8 (c : Int)] w fun e w' => e = .returned (.int .i64 res) ∧ w' = w := by
  have HIn : Hid (Calls Tryz.prog 102 #[.slice ao l.length cap, .int .u8 (c : Int)] w fun e w' => e = .returned (.int .i64 res) ∧ w' = w) := by
    unfold maxLen at hm
    have HR : Hid _ := hr
    have HRes : Hid _ := hres
    have HL : Hid _ := hl
    obtain ⟨n, hn⟩ : ∃ n, n = l.length := ⟨_, rfl⟩
    have HN : Hid _ := hn
    rw [← hn] at hc ⊢
    clear hn hr hres hl
    show Calls _ _ _ _ _
    go_enter Tryz.func102, Tryz.ntmps102
    go_wp2
    go_loop [5] (fun i => ∃ k : Nat, k ≤ n ∧ i = .int .i64 ((k : Int) - 1) ∧ ∀ j x : Nat, k ≤ j → l[j]? = some x → x ≠ c) (fun i => (intOf i + 1).toNat)
    case atStart => exact ⟨n, Nat.le_refl _, rfl, fun j x hj hx => by have := (List.getElem?_eq_some_iff.1 hx).1; have := HN.out; omega⟩
    case round =>
      obtain ⟨k, hk, rfl, hall⟩ := hrel
      have HA : Hid _ := hall
      clear hall
      by_cases hk0 : 0 < k
      · obtain ⟨j, rfl⟩ : ∃ j, k = j + 1 := ⟨k - 1, by omega⟩
        have hjl : j < l.length := by rw [← HN.out]; omega
        obtain ⟨b, off, rfl, hcell⟩ := VRow.at HR.out (k := j) (by rw [bv_len]; exact hjl)
        obtain ⟨x, hx⟩ : ∃ x, l[j]? = some x := ⟨l[j], List.getElem?_eq_getElem hjl⟩
        have hcx := hcell j (.int .u8 (x : Int)) (by simp [bv, hx])
        have hx256 := HL.out x (List.mem_of_getElem? hx)
        have HX : Hid _ := hx
        have hj1 : ((j + 1 : Nat) : Int) - 1 = (j : Int) := by omega
        rw [hj1]
        clear hcell hx hj1
        by_cases hxc : x = c
        · subst hxc
          have HF : Hid (res = (j : Int)) := LastAt.here HRes.out HX.out (fun i y hi hy => HA.out i y (by omega) hy)
          go_wp2
          go_ret
          rw [HF.out]
          exact ⟨rfl, rfl⟩
        · have hne : ((x : Int) == (c : Int)) = false := by simp; omega
          have HXC : Hid _ := hxc
          clear hxc
          go_wp2
          go_round
          case rel =>
            refine ⟨j, by omega, rfl, fun i y hi hy => ?_⟩
            by_cases e : i = j
            · subst e
              have := HX.out
              rw [hy] at this
              rw [Option.some.inj this]
              exact HXC.out
            · exact HA.out i y (by omega) hy
          case measure => simp [intOf]
      · have e : k = 0 := by omega
        subst e
        have HF : Hid (res = -1) := LastAt.none HRes.out (fun j x hx => HA.out j x (by omega) hx)
        go_wp2
        go_ret
        rw [HF.out]
        exact ⟨rfl, rfl⟩
  clear hr hres hl hm
  go_enter Tryz.func82, Tryz.ntmps82
  go_wp2_with (go_at_call 102; refine Calls.mono HIn.out ?_; rintro e w2 ⟨rfl, h2w⟩; subst w2)
  go_ret
  exact ⟨rfl, rfl⟩
theorem Own.take {w : World} {base : Nat} {ao : Option Addr} {cap : Nat} {vs : List Value} (h : Own w base 5 (.slice ao vs.length cap) vs) (k : Nat) (hk : k ≤ vs.length) : Own w base 5 (.slice ao k cap) (vs.take k) := by
  have hl : (vs.take k).length = k := by rw [List.length_take]; omega
  unfold Own
  rw [hl]
  refine ⟨by simp [hl], ?_⟩
  rcases h.2 with ⟨h2, h3⟩ | ⟨g, cp, cur, h2, h3, h4, h5, h6, h7, h8⟩
  · left
    injection h2 with e1 e2 e3
    have : k = 0 := by omega
    subst this
    rw [e1, e3]
    exact ⟨rfl, rfl⟩
  · right
    injection h2 with e1 e2 e3
    subst e1
    subst e3
    refine ⟨g, cap, cur, rfl, h3, h4, by omega, h6, h7, ?_⟩
    rw [Nat.mul_one] at h8 ⊢
    rw [← h8, List.take_take, Nat.min_eq_left hk]
/-- The path so far, and what is cut off it. -/
theorem lastAt_join {st : List (List Nat)} (h : ∀ g ∈ st, No (is 47) g) : ∃ (res : Int) (k : Nat), LastAt 47 (join st) res ∧ max 0 res = (k : Int) ∧ (join st).take k = join st.dropLast ∧ k ≤ (join st).length := by
  rcases List.eq_nil_or_concat st with rfl | ⟨s, g, rfl⟩
  · exact ⟨-1, 0, .inr ⟨No.nil _, rfl⟩, by decide, rfl, by omega⟩
  · rw [List.concat_eq_append] at h ⊢
    have e : join (s ++ [g]) = join s ++ 47 :: g := by rw [AddrMath.join_app, AddrMath.join_one]
    refine ⟨(join s).length, (join s).length, .inl ⟨join s, g, e, h g (by simp), rfl⟩, by omega, ?_, ?_⟩
    · rw [e, List.dropLast_concat, List.take_left]
    · rw [e, List.length_append]; omega
def mdots : Value → Value → Nat
  | .string s, .bool true => s.size + 1
  | _, _ => 0
theorem splitD_pre (c : Nat) (l : List Nat) : (post (is c) l = [] ∧ splitD c l = [pre (is c) l]) ∨ (∃ t, post (is c) l = c :: t ∧ splitD c l = pre (is c) l :: splitD c t ∧ t.length < l.length) := by
  have e := AddrMath.pre_post (is c) l
  rcases AddrMath.post_cases (is c) l with h | ⟨d, t, h, hd⟩
  · left
    rw [h, List.append_nil] at e
    refine ⟨h, ?_⟩
    have hn := AddrMath.pre_no (is c) l
    rw [e] at hn ⊢
    exact AddrMath.splitD_none hn
  · right
    have hd' : d = c := by simpa [is] using hd
    subst hd'
    refine ⟨t, h, ?_, ?_⟩
    · rw [h] at e
      rw [← AddrMath.splitD_hit t (AddrMath.pre_no (is d) l), e]
    · have := congrArg List.length e
      rw [h, List.length_append] at this
      simp at this; omega
theorem dotsGo_one (st : List (List Nat)) (g : List Nat) : dotsGo st [g] = if g = [46] then st ++ [[]] else if g = [46, 46] then st.dropLast ++ [[]] else st ++ [g] := rfl
theorem dotsGo_more (st : List (List Nat)) (g t : List Nat) : dotsGo st (g :: splitD 47 t) = if g = [46] then dotsGo st (splitD 47 t) else if g = [46, 46] then dotsGo st.dropLast (splitD 47 t) else dotsGo (st ++ [g]) (splitD 47 t) := by
  cases h : splitD 47 t with
  | nil => exact absurd h (AddrMath.splitD_ne 47 t)
  | cons a b => rfl
theorem join_len_le : ∀ st : List (List Nat), (join st.dropLast).length ≤ (join st).length := by
  intro st
  rcases List.eq_nil_or_concat st with rfl | ⟨s, g, rfl⟩
  · simp
  · rw [List.concat_eq_append, List.dropLast_concat, AddrMath.join_app, List.length_append]; omega
theorem strCells_strN (l : List Nat) (hl : ∀ c ∈ l, c < 256) : Lib.strCells (strN l) = bv l := by
  unfold Lib.strCells
  rw [strN_data, List.map_map]
  unfold bv
  apply List.map_congr_left
  intro x hx
  have := hl x hx
  simp; omega
end Go.Proofs.YteockpllnhjooaaGreatDoor

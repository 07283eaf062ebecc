/-
  The walk of the law CrcMore: a checksum goes on where it was left, and parts are as the whole.
-/
import Derived.Test.YtpffjeoiacaihaaDoorL2Lit
namespace Go.Proofs.YtpffjeoiacaihaaDoor
open Go.RowKit NumMath
set_option maxRecDepth 100000
set_option linter.unusedVariables false
set_option linter.unusedSimpArgs false

set_option maxHeartbeats 1600000 in
theorem crcMore_walk (a0 : Option Addr) (A : List Int) (cap0 : Nat) (a1 : Option Addr) (B : List Int) (cap1 : Nat) (a2 : Option Addr) (C : List Int) (cap2 : Nat) (s : Int) (W : World) (ht : Tab W)
    (hr0 : Row .u8 W a0 A) (hc0 : A.length ≤ cap0) (hm0 : cap0 ≤ maxLen) (hn0 : a0 = none → cap0 = 0) (hw0 : ∀ n ∈ A, (Lit.int .u8 n).wf = true) (hs0 : cap0 ≤ 1048576)
    (hr1 : Row .u8 W a1 B) (hc1 : B.length ≤ cap1) (hm1 : cap1 ≤ maxLen) (hn1 : a1 = none → cap1 = 0) (hw1 : ∀ n ∈ B, (Lit.int .u8 n).wf = true) (hs1 : cap1 ≤ 1048576)
    (hr2 : Row .u8 W a2 C) (hc2 : C.length ≤ cap2) (hm2 : cap2 ≤ maxLen) (hn2 : a2 = none → cap2 = 0) (hw2 : ∀ n ∈ C, (Lit.int .u8 n).wf = true) (hs2 : cap2 ≤ 1048576) (ws : (Lit.int .u32 s).wf = true) :
    Calls Tryd.prog 4 #[.slice a0 A.length cap0, .slice a1 B.length cap1, .slice a2 C.length cap2, .int .u32 s] W fun e w' => e = .returned (.bool true) ∧ Below W.heap.size W w' := by
  obtain ⟨i0, hi, hz0, hz1, hz2⟩ := info_parts Tryd.info5
  have hb0 := u8s hw0
  have hb1 := u8s hw1
  have hb2 := u8s hw2
  have hsb := bounds_u32 ws
  obtain ⟨s, rfl⟩ := Int.eq_ofNat_of_zero_le hsb.1
  clear hw0 hw1 hw2 ws
  obtain ⟨X, hX⟩ : ∃ X, X = crcOf (A ++ B ++ C) := ⟨_, rfl⟩
  have HX : Hid (X = crcOf (A ++ B ++ C)) := hX
  have kA : ∀ w1, Below W.heap.size W w1 → (Part.mk a0 A cap0).ok w1 := fun w1 h => part_ok (hr0.later h) hb0 hc0 hm0
  have kB : ∀ w1, Below W.heap.size W w1 → (Part.mk a1 B cap1).ok w1 := fun w1 h => part_ok (hr1.later h) hb1 hc1 hm1
  have kC : ∀ w1, Below W.heap.size W w1 → (Part.mk a2 C cap2).ok w1 := fun w1 h => part_ok (hr2.later h) hb2 hc2 hm2
  have kN : ∀ w1, noPart.ok w1 := fun w1 => part_ok (.inl rfl) (by simp) (by simp) (by decide)
  have hlA := crcOf_lt hb0
  have hlAB := crcOf_lt (bytes_append hb0 hb1)
  -- the five ways
  have m1 : ∀ w1, Below W.heap.size W w1 → ∀ a c, Row .u8 w1 a (B ++ C) → (B ++ C).length ≤ c → c ≤ maxLen → Calls Tryd.prog 18 #[.int .u32 ((crcOf A : Nat) : Int), .slice a (B.length + C.length) c] w1 fun e w' => e = .returned (.int .u32 (X : Int)) ∧ Below w1.heap.size w1 w' := by
    intro w1 hB a c hr hc hm
    have := crcMore_any (crcOf A) a (B ++ C) c w1 (ht.later hB) hlA hr (bytes_append hb1 hb2) hc hm
    rw [crcOf_more, ← List.append_assoc, ← hX, List.length_append] at this
    exact this
  have m2 : ∀ w1, Below W.heap.size W w1 → Calls Tryd.prog 18 #[.int .u32 0, .slice a0 A.length cap0] w1 fun e w' => e = .returned (.int .u32 ((crcOf A : Nat) : Int)) ∧ Below w1.heap.size w1 w' :=
    fun w1 hB => crcMore_any 0 a0 A cap0 w1 (ht.later hB) (by decide) (hr0.later hB) hb0 hc0 hm0
  have m3 : ∀ w1, Below W.heap.size W w1 → Calls Tryd.prog 18 #[.int .u32 ((crcOf A : Nat) : Int), .slice a1 B.length cap1] w1 fun e w' => e = .returned (.int .u32 ((crcOf (A ++ B) : Nat) : Int)) ∧ Below w1.heap.size w1 w' := by
    intro w1 hB
    have := crcMore_any (crcOf A) a1 B cap1 w1 (ht.later hB) hlA (hr1.later hB) hb1 hc1 hm1
    rwa [crcOf_more] at this
  have m4 : ∀ w1, Below W.heap.size W w1 → Calls Tryd.prog 18 #[.int .u32 ((crcOf (A ++ B) : Nat) : Int), .slice a2 C.length cap2] w1 fun e w' => e = .returned (.int .u32 (X : Int)) ∧ Below w1.heap.size w1 w' := by
    intro w1 hB
    have := crcMore_any (crcOf (A ++ B)) a2 C cap2 w1 (ht.later hB) hlAB (hr2.later hB) hb2 hc2 hm2
    rwa [crcOf_more, ← hX] at this
  have m5 : ∀ w1, Below W.heap.size W w1 → Calls Tryd.prog 18 #[.int .u32 (s : Int), .slice a0 A.length cap0] w1 fun e w' => e = .returned (.int .u32 ((CrcMath.more s (nats A) : Nat) : Int)) ∧ Below w1.heap.size w1 w' :=
    fun w1 hB => crcMore_any s a0 A cap0 w1 (ht.later hB) (by omega) (hr0.later hB) hb0 hc0 hm0
  have m6 : ∀ w1, Below W.heap.size W w1 → Calls Tryd.prog 19 #[.int .u32 (s : Int), .slice a0 A.length cap0] w1 fun e w' => e = .returned (.int .u32 ((CrcMath.more s (nats A) : Nat) : Int)) ∧ w' = w1 :=
    fun w1 hB => refMore_any s a0 A cap0 w1 (by omega) (hr0.later hB) hb0 hc0 hm0
  have HM1 : Hid _ := m1
  have HM2 : Hid _ := m2
  have HM3 : Hid _ := m3
  have HM4 : Hid _ := m4
  have HM5 : Hid _ := m5
  have HM6 : Hid _ := m6
  have HKA : Hid _ := kA
  have HKB : Hid _ := kB
  have HKC : Hid _ := kC
  have HKN : Hid _ := kN
  obtain ⟨CA, hCA⟩ : ∃ CA, CA = crcOf A := ⟨_, rfl⟩
  obtain ⟨CAB, hCAB⟩ : ∃ CA, CA = crcOf (A ++ B) := ⟨_, rfl⟩
  obtain ⟨CS, hCS⟩ : ∃ CA, CA = CrcMath.more s (nats A) := ⟨_, rfl⟩
  clear m1 m2 m3 m4 m5 m6 kA kB kC kN hlA hlAB hX
  rw [← hCA] at HM1 HM2 HM3
  rw [← hCAB] at HM3 HM4
  rw [← hCS] at HM5 HM6
  have HCA : Hid (CA = crcOf A) := hCA
  clear hCA hCAB hCS
  have hbs : A.length + B.length + C.length ≤ 3145728 := by omega
  have hnl0 : a0 = none → A.length = 0 ∧ cap0 = 0 := fun h => by have := hn0 h; omega
  have hnl1 : a1 = none → B.length = 0 ∧ cap1 = 0 := fun h => by have := hn1 h; omega
  have hnl2 : a2 = none → C.length = 0 ∧ cap2 = 0 := fun h => by have := hn2 h; omega
  have HNL0 : Hid _ := hnl0
  have HNL1 : Hid _ := hnl1
  have HNL2 : Hid _ := hnl2
  clear hn0 hn1 hn2 hnl0 hnl1 hnl2
  go_enter Tryd.func4, Tryd.ntmps4
  go_wp2_with fail
  refine (known2_any _ ht).mono ?_
  rintro e w1 ⟨rfl, hB1⟩
  go_wp2_with (first
    | (at_builtin; refine wpList_append_own_any rfl _ (.tmp 13) 24 rfl w1.heap.size 5 i0 (.int .u8 0) 1 1 Tryd.underlying24 hi hz0 hz1 hz2 rfl (by decide) (.slice none 0 0) 0 [] rfl (World.ownsRow_nil _ _ _ _) a0 A.length cap0 (A.map (Value.int .u8)) rfl (by rw [List.length_map, Nat.mul_one]) HNL0.out (hr0.later hB1).news (ints_oneCell _ _) (by unfold maxLen; omega) (by omega) (Nat.le_refl _) ?_; intro v2 w2 hown2 hgrow2; rw [Nat.zero_add, List.nil_append] at hown2; have hB2 : Below w1.heap.size w1 w2 := (Below.refl _ _).grown hgrow2 (Nat.le_refl _) (fun k hk => by cases hk))
    | (at_builtin; refine wpList_append_own_any rfl (.tmp 14) (.tmp 15) 24 rfl w1.heap.size 5 i0 (.int .u8 0) 1 1 Tryd.underlying24 hi hz0 hz1 hz2 rfl (by decide) v2 A.length _ rfl hown2 a1 B.length cap1 (B.map (Value.int .u8)) rfl (by rw [List.length_map, Nat.mul_one]) HNL1.out ((hr1.later hB1).later hB2).news (ints_oneCell _ _) (by unfold maxLen; omega) (by omega) hB2.size ?_; intro v3 w3 hown3 hgrow3; have hB3 : Below w1.heap.size w1 w3 := hB2.grown hgrow3 hB2.size (own_ge hown2))
    | (at_builtin; refine wpList_append_own_any rfl (.tmp 16) (.tmp 17) 24 rfl w1.heap.size 5 i0 (.int .u8 0) 1 1 Tryd.underlying24 hi hz0 hz1 hz2 rfl (by decide) v3 (A.length + B.length) _ rfl hown3 a2 C.length cap2 (C.map (Value.int .u8)) rfl (by rw [List.length_map, Nat.mul_one]) HNL2.out ((hr2.later hB1).later hB3).news (ints_oneCell _ _) (by unfold maxLen; omega) (by omega) hB3.size ?_; intro v4 w4 hown4 hgrow4; have hB4 : Below w1.heap.size w1 w4 := hB3.grown hgrow4 hB3.size (own_ge hown3); rw [← List.map_append, ← List.map_append] at hown4; obtain ⟨Z, HZ⟩ : ∃ Z, Hid (Z = A ++ B ++ C) := ⟨_, rfl⟩; rw [← HZ.out] at hown4; obtain ⟨a4, c4, hv4, hr4, hc4, hm4, hn4⟩ := own_shape hown4; subst hv4)
    | fail)
  have hB14 := hB1.trans (hB4.mono hB1.size)
  have HS4 := sum_lit w4 (ht.later hB14) [⟨a4, Z, c4⟩] (by intro p hp; simp only [List.mem_singleton] at hp; subst hp; exact part_ok hr4 (by rw [HZ.out]; exact bytes_append (bytes_append hb0 hb1) hb2) hc4 hm4) _ 1 rfl rfl (by decide) _ rfl
  rw [allB_1] at HS4; dsimp only at HS4; rw [HZ.out, ← HX.out, ← HZ.out] at HS4
  refine Calls.mono HS4 ?_
  rintro e w5 ⟨rfl, hbel5⟩
  have hB5 := hB14.trans (hbel5.mono hB14.size)
  clear HS4 hbel5 hB14 hB4 hB3 hB2 hB1 hown4 hown3 hown2 hgrow2 hgrow3 hgrow4 hr4 hc4 hm4 hn4
  go_wp2_with fail
  have HS5 := sum_lit w5 (ht.later hB5) [⟨a0, A, cap0⟩] (by intro p hp; simp only [List.mem_singleton] at hp; subst hp; exact HKA.out w5 hB5) _ 1 rfl rfl (by decide) _ rfl
  rw [allB_1, ← HCA.out] at HS5
  refine Calls.mono HS5 ?_
  rintro e w6 ⟨rfl, hbel6⟩
  have hB6 := hB5.trans (hbel6.mono hB5.size)
  clear HS5 hbel6 hB5
  go_wp2_with (first
    | (at_builtin; refine wpList_append_own_any rfl _ (.tmp 25) 24 rfl w6.heap.size 5 i0 (.int .u8 0) 1 1 Tryd.underlying24 hi hz0 hz1 hz2 rfl (by decide) (.slice none 0 0) 0 [] rfl (World.ownsRow_nil _ _ _ _) a1 B.length cap1 (B.map (Value.int .u8)) rfl (by rw [List.length_map, Nat.mul_one]) HNL1.out (hr1.later hB6).news (ints_oneCell _ _) (by unfold maxLen; omega) (by omega) (Nat.le_refl _) ?_; intro v7 w7 hown7 hgrow7; rw [Nat.zero_add, List.nil_append] at hown7; have hB7 : Below w6.heap.size w6 w7 := (Below.refl _ _).grown hgrow7 (Nat.le_refl _) (fun k hk => by cases hk))
    | (at_builtin; refine wpList_append_own_any rfl (.tmp 26) (.tmp 27) 24 rfl w6.heap.size 5 i0 (.int .u8 0) 1 1 Tryd.underlying24 hi hz0 hz1 hz2 rfl (by decide) v7 B.length _ rfl hown7 a2 C.length cap2 (C.map (Value.int .u8)) rfl (by rw [List.length_map, Nat.mul_one]) HNL2.out ((hr2.later hB6).later hB7).news (ints_oneCell _ _) (by unfold maxLen; omega) (by omega) hB7.size ?_; intro v8 w8 hown8 hgrow8; have hB8 : Below w6.heap.size w6 w8 := hB7.grown hgrow8 hB7.size (own_ge hown7); rw [← List.map_append] at hown8; obtain ⟨a8, c8, hv8, hr8, hc8, hm8, hn8⟩ := own_shape hown8; subst hv8; rw [List.length_append])
    | fail)
  have hB68 := hB6.trans (hB8.mono hB6.size)
  refine Calls.mono (HM1.out w8 hB68 a8 c8 hr8 hc8 hm8) ?_
  rintro e w9 ⟨rfl, hbel9⟩
  have hB9 := hB68.trans (hbel9.mono hB68.size)
  clear hbel9 hB68 hB8 hB7 hB6 hown8 hown7 hgrow7 hgrow8 hr8 hc8 hm8 hn8
  go_wp2_with fail
  refine Calls.mono (HM2.out w9 hB9) ?_
  rintro e w10 ⟨rfl, hbel10⟩
  have hB10 := hB9.trans (hbel10.mono hB9.size)
  clear hbel10 hB9
  go_wp2_with fail
  refine Calls.mono (HM3.out w10 hB10) ?_
  rintro e w11 ⟨rfl, hbel11⟩
  have hB11 := hB10.trans (hbel11.mono hB10.size)
  clear hbel11 hB10
  go_wp2_with fail
  refine Calls.mono (HM4.out w11 hB11) ?_
  rintro e w12 ⟨rfl, hbel12⟩
  have hB12 := hB11.trans (hbel12.mono hB11.size)
  clear hbel12 hB11
  go_wp2_with fail
  have HS6 := sum_lit w12 (ht.later hB12) [⟨a0, A, cap0⟩, ⟨a1, B, cap1⟩, ⟨a2, C, cap2⟩] (by intro p hp; simp only [List.mem_cons, List.not_mem_nil, or_false] at hp; rcases hp with rfl | rfl | rfl; all_goals first | exact HKA.out w12 hB12 | exact HKB.out w12 hB12 | exact HKC.out w12 hB12) _ 3 rfl rfl (by decide) _ rfl
  rw [allB_3, ← HX.out] at HS6
  refine Calls.mono HS6 ?_
  rintro e w13 ⟨rfl, hbel13⟩
  have hB13 := hB12.trans (hbel13.mono hB12.size)
  clear HS6 hbel13 hB12
  go_wp2_with fail
  have HS7 := sum_lit w13 (ht.later hB13) [⟨a0, A, cap0⟩, noPart, ⟨a1, B, cap1⟩, ⟨a2, C, cap2⟩] (by intro p hp; simp only [List.mem_cons, List.not_mem_nil, or_false] at hp; rcases hp with rfl | rfl | rfl | rfl; all_goals first | exact HKA.out w13 hB13 | exact HKN.out w13 | exact HKB.out w13 hB13 | exact HKC.out w13 hB13) _ 4 rfl rfl (by decide) _ rfl
  rw [allB_4, ← HX.out] at HS7
  refine Calls.mono HS7 ?_
  rintro e w14 ⟨rfl, hbel14⟩
  have hB14 := hB13.trans (hbel14.mono hB13.size)
  clear HS7 hbel14 hB13
  go_wp2_with fail
  refine Calls.mono (HM5.out w14 hB14) ?_
  rintro e w15 ⟨rfl, hbel15⟩
  have hB15 := hB14.trans (hbel15.mono hB14.size)
  clear hbel15 hB14
  go_wp2_with fail
  refine Calls.mono (HM6.out w15 hB15) ?_
  rintro e w16 ⟨rfl, rfl⟩
  go_wp2
  go_ret
  exact ⟨rfl, hB15⟩
end Go.Proofs.YtpffjeoiacaihaaDoor

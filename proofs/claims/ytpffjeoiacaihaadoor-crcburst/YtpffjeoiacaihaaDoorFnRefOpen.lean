/-
  Walk of newsreelref1.Open: what stands ahead of the last four bytes, if these are its checksum.
-/
import Derived.Test.YtpffjeoiacaihaaDoorFnRefSeal
import Derived.Test.YtpffjeoiacaihaaDoorFnRefBig
namespace Go.Proofs.YtpffjeoiacaihaaDoor
open Go.RowKit NumMath
set_option maxRecDepth 100000
set_option linter.unusedVariables false
set_option linter.unusedSimpArgs false

/-- Are the last four bytes the checksum of what stands ahead of them? (Of four bytes or more.) -/
def openQ (zs : List Int) : Bool := bigL (zs.drop (zs.length - 4)) == ((crcOf (zs.take (zs.length - 4)) : Nat) : Int)
/-- Are these bytes opened? -/
def openB (zs : List Int) : Bool := decide (4 ≤ zs.length) && openQ zs

/-- To what. -/
def opened (zs : List Int) : List Int := if openB zs then zs.take (zs.length - 4) else []
theorem opened_yes {zs : List Int} (h : openB zs = true) : opened zs = zs.take (zs.length - 4) := by unfold opened; rw [h]; rfl
theorem opened_no {zs : List Int} (h : openB zs = false) : opened zs = [] := by unfold opened; rw [h]; rfl

set_option maxHeartbeats 1600000 in
theorem refOpen_any (a : Option Addr) (zs : List Int) (cap : Nat) (w : World) (hr : Row .u8 w a zs) (hb : ∀ c ∈ zs, 0 ≤ c ∧ c ≤ 255) (hc : zs.length ≤ cap) (hm : cap ≤ maxLen) (hnil : a = none → cap = 0) (hs : zs.length ≤ 140737488355328) :
    Calls Tryd.prog 24 #[.slice a zs.length cap] w fun e w' => ∃ v, e = .returned (.tuple #[v, .bool (openB zs)]) ∧
      w'.ownsRow w.heap.size 5 1 v (opened zs).length ((opened zs).map (Value.int .u8)) ∧ Below w.heap.size w w' := by
  obtain ⟨i0, hi, hz0, hz1, hz2⟩ := info_parts Tryd.info5
  obtain ⟨L, hL⟩ : ∃ L, L = zs.length := ⟨_, rfl⟩
  by_cases h4 : 4 ≤ L
  · have hoB : openB zs = openQ zs := by unfold openB; rw [← hL]; simp [h4]
    obtain ⟨n, hn⟩ : ∃ n, n = L - 4 := ⟨_, rfl⟩
    have hLn : (L : Int) - 4 = (n : Int) := by omega
    have hmc : (cap : Int) ≤ 9223372036854775807 := by unfold maxLen at hm; omega
    have hlt : (zs.take n).length = n := by rw [List.length_take]; omega
    have hld : (zs.drop n).length = L - n := by rw [List.length_drop]; omega
    have hne : zs ≠ [] := by intro h; rw [h] at hL; simp at hL; omega
    obtain ⟨b, off, ha, hcell⟩ := hr.resolve_left hne
    subst ha
    have hrd : ∀ w', Row .u8 w' (some ⟨b, off, none⟩) zs → Row .u8 w' (if cap = n then some ⟨b, off, none⟩ else some ⟨b, off + n, none⟩) (zs.drop n) := by
      intro w' h
      have h2 : Row .u8 w' (some ⟨b, off, none⟩) (zs.take n ++ zs.drop n) := by rw [List.take_append_drop]; exact h
      exact Row.rest (c := cap) h2 hlt (by rw [List.take_append_drop]; omega) (by intro hh; rw [if_neg hh])
    have hbd : ∀ c ∈ zs.drop n, 0 ≤ c ∧ c ≤ 255 := fun c hc => hb c (List.mem_of_mem_drop hc)
    have HBIG : Hid (∀ w', Row .u8 w' (some ⟨b, off, none⟩) zs → Calls Tryd.prog 47 #[.slice (if cap = n then some ⟨b, off, none⟩ else some ⟨b, off + n, none⟩) (L - n) (cap - n)] w' fun e w'' => e = .returned (.int .u64 (bigL (zs.drop n))) ∧ w'' = w') := by
      intro w' h
      have := refBig_any _ (zs.drop n) (cap - n) w' (hrd w' h) hbd (by rw [hld]; omega) (by omega)
      rw [hld, List.take_of_length_le (by rw [hld]; omega)] at this
      exact this
    obtain ⟨C, hC⟩ : ∃ C : Nat, C = crcOf (zs.take n) := ⟨_, rfl⟩
    have hCl : C < 4294967296 := by rw [hC]; exact crcOf_lt (bytes_take hb n)
    have hS2 : Row .u8 ((w.alloc (.cells #[.slice (some ⟨b, off, none⟩) n cap] 24)).drew) (some ⟨b, off, none⟩) zs := (hr.later ((Below.refl _ _).alloc (Nat.le_refl _) _)).drew
    have HSUM : Hid (Calls Tryd.prog 17 #[.slice (some ⟨w.heap.size, 0, none⟩) 1 1] ((w.alloc (.cells #[.slice (some ⟨b, off, none⟩) n cap] 24)).drew) fun e w'' => e = .returned (.int .u32 (C : Int)) ∧ w'' = ((w.alloc (.cells #[.slice (some ⟨b, off, none⟩) n cap] 24)).drew)) := by
      have hok : (Part.mk (some ⟨b, off, none⟩) (zs.take n) cap).ok w.drew := ⟨(hr.take n).drew, bytes_take hb n, by show (zs.take n).length ≤ cap; omega, hm⟩
      have hp := lit_parts w.drew [⟨some ⟨b, off, none⟩, zs.take n, cap⟩] 24 w.heap.size rfl (by intro p hp; simp at hp; subst hp; exact hok)
      have := refSum_any (some ⟨w.heap.size, 0, none⟩) [⟨some ⟨b, off, none⟩, zs.take n, cap⟩] 1 _ hp (by simp) (by decide)
      rw [allB_one] at this
      rw [hC]
      have he : (Part.mk (some ⟨b, off, none⟩) (zs.take n) cap).val = .slice (some ⟨b, off, none⟩) n cap := by unfold Part.val; rw [hlt]
      simp only [List.map_cons, List.map_nil, he] at this
      exact this
    have hQ : openQ zs = (bigL (zs.drop n) == (C : Int)) := by unfold openQ; rw [← hL, ← hn, ← hC]
    obtain ⟨X, hX⟩ : ∃ X, X = bigL (zs.drop n) := ⟨_, rfl⟩
    rw [← hX] at HBIG hQ
    have HOB : Hid (openB zs = (X == (C : Int))) := by rw [hoB]; exact hQ
    have hwC : IntKind.u64.wrap (C : Int) = (C : Int) := IntWalk.u64_in _ ⟨by omega, by omega⟩
    have HYES : Hid (openB zs = true → opened zs = zs.take n) := by intro h; have := opened_yes h; rw [← hL, ← hn] at this; exact this
    have b1 : 0 ≤ (n : Int) := by omega
    have b2 : (n : Int) ≤ (cap : Int) := by omega
    have b3 : (n : Int) ≤ (L : Int) := by omega
    have d0 : decide ((n : Int) < 0) = false := by simp
    have hdr := hr.drew
    have hrt := hr.take n
    rw [← hL] at hc hs ⊢
    have HLT : Hid ((zs.take n).length = n) := hlt
    clear hoB hQ hX hC hn hrd hbd hld hlt hL hne hcell hnil
    go_enter Tryd.func24, Tryd.ntmps24
    go_wp2
    refine wp_region_held_drew (S := fun w' => Row .u8 w' (some ⟨b, off, none⟩) zs) (by kernel_rfl) hdr (fun hS => ?_)
    refine wpAnyH_take (i := 0) (v := ?_) rfl (by kernel_rfl) (by kernel_rfl) (by kernel_rfl) (fun _ _ _ h => h) (Or.inl ⟨by rfl, ?_⟩) hS ?_
    rotate_left 1
    · intro w hSw; (try dsimp only at hSw); go_simp <;> with_reducible rfl
    simp only [List.getElem_toArray, List.getElem_cons_zero, List.getElem_cons_succ, Act.put, List.setIfInBounds_toArray, List.set_cons_zero, List.set_cons_succ]
    refine wpAnyH_take (i := 1) (v := ?_) rfl (by kernel_rfl) (by kernel_rfl) (by kernel_rfl) (fun _ _ _ h => h) (Or.inl ⟨by rfl, ?_⟩) hS ?_
    rotate_left 1
    · intro w hSw; (try dsimp only at hSw); go_simp <;> with_reducible rfl
    simp only [List.getElem_toArray, List.getElem_cons_zero, List.getElem_cons_succ, Act.put, List.setIfInBounds_toArray, List.set_cons_zero, List.set_cons_succ]
    refine wpAnyH_take (i := 2) (v := ?_) rfl (by kernel_rfl) (by kernel_rfl) (by kernel_rfl) (fun _ _ _ h => h) (Or.inl ⟨by rfl, ?_⟩) hS ?_
    rotate_left 1
    · intro w hSw; (try dsimp only at hSw); go_simp <;> with_reducible rfl
    simp only [List.getElem_toArray, List.getElem_cons_zero, List.getElem_cons_succ, Act.put, List.setIfInBounds_toArray, List.set_cons_zero, List.set_cons_succ]
    refine wpAnyH_take (i := 3) (v := ?_) rfl (by kernel_rfl) (by kernel_rfl) (by kernel_rfl) (fun _ _ _ h => h) (Or.inl ⟨by rfl, ?_⟩) hS ?_
    rotate_left 1
    · intro w hSw; (try dsimp only at hSw); go_simp <;> with_reducible rfl
    simp only [List.getElem_toArray, List.getElem_cons_zero, List.getElem_cons_succ, Act.put, List.setIfInBounds_toArray, List.set_cons_zero, List.set_cons_succ]
    refine wpAnyH_take (i := 4) (v := ?_) rfl (by kernel_rfl) (by kernel_rfl) (by kernel_rfl) (fun _ _ _ h => h) (Or.inl ⟨by rfl, ?_⟩) hS ?_
    rotate_left 1
    · intro w hSw; (try dsimp only at hSw); go_simp <;> with_reducible rfl
    simp only [List.getElem_toArray, List.getElem_cons_zero, List.getElem_cons_succ, Act.put, List.setIfInBounds_toArray, List.set_cons_zero, List.set_cons_succ]
    refine wpAnyH_take (i := 5) (v := ?_) rfl (by kernel_rfl) (by kernel_rfl) (by kernel_rfl) (fun _ _ _ h => h) (Or.inl ⟨by rfl, ?_⟩) hS ?_
    rotate_left 1
    · intro w hSw; (try dsimp only at hSw); go_simp <;> with_reducible rfl
    simp only [List.getElem_toArray, List.getElem_cons_zero, List.getElem_cons_succ, Act.put, List.setIfInBounds_toArray, List.set_cons_zero, List.set_cons_succ]
    refine wpAnyH_take (i := 7) (v := ?_) rfl (by kernel_rfl) (by kernel_rfl) (by kernel_rfl) (fun _ _ _ h => h) (Or.inl ⟨by rfl, ?_⟩) hS ?_
    rotate_left 1
    · intro w hSw; (try dsimp only at hSw); go_simp <;> with_reducible rfl
    simp only [List.getElem_toArray, List.getElem_cons_zero, List.getElem_cons_succ, Act.put, List.setIfInBounds_toArray, List.set_cons_zero, List.set_cons_succ]
    refine wpAnyH_take (i := 8) (v := ?_) rfl (by kernel_rfl) (by kernel_rfl) (by kernel_rfl) (fun _ _ _ h => h) (Or.inl ⟨by rfl, ?_⟩) hS ?_
    rotate_left 1
    · intro w hSw; (try dsimp only at hSw); go_simp <;> with_reducible rfl
    simp only [List.getElem_toArray, List.getElem_cons_zero, List.getElem_cons_succ, Act.put, List.setIfInBounds_toArray, List.set_cons_zero, List.set_cons_succ]
    refine wpAnyH_take (i := 9) (v := ?_) rfl (by kernel_rfl) (by kernel_rfl) (by kernel_rfl) (fun _ _ _ h => h) (Or.inl ⟨by rfl, ?_⟩) hS ?_
    rotate_left 1
    · intro w hSw; (try dsimp only at hSw); go_simp <;> with_reducible rfl
    simp only [List.getElem_toArray, List.getElem_cons_zero, List.getElem_cons_succ, Act.put, List.setIfInBounds_toArray, List.set_cons_zero, List.set_cons_succ]
    refine wpAnyH_ready (rs := [6, 10]) (by kernel_rfl) (by simp) ?_
    refine AllReadyH.cons rfl (fun K hK => ?_) (AllReadyH.cons rfl (fun K hK => ?_) AllReadyH.nil)
    · clear hdr
      go_simp
      refine Calls.mono (HBIG.out _ hS) ?_
      rintro e w5 ⟨rfl, rfl⟩
      refine hK.out _ _ hS (fun hS => ?_)
      clear hK K
      try simp only [List.getElem_toArray, List.getElem_cons_zero, List.getElem_cons_succ, Act.put, List.setIfInBounds_toArray, List.set_cons_zero, List.set_cons_succ]
      refine wpAnyH_ready (rs := [10]) (by kernel_rfl) (by simp) ?_
      refine AllReadyH.cons rfl (fun K hK => ?_) AllReadyH.nil
      go_simp
      refine hK.out _ _ hS2 (fun hS => ?_)
      clear hK K
      try simp only [List.getElem_toArray, List.getElem_cons_zero, List.getElem_cons_succ, Act.put, List.setIfInBounds_toArray, List.set_cons_zero, List.set_cons_succ]
      refine wpAnyH_ready (rs := [11]) (by kernel_rfl) (by simp) ?_
      refine AllReadyH.cons rfl (fun K hK => ?_) AllReadyH.nil
      go_simp
      refine Calls.mono HSUM.out ?_
      rintro e w6 ⟨rfl, rfl⟩
      refine hK.out _ _ hS (fun hS => ?_)
      clear hK K
      try simp only [List.getElem_toArray, List.getElem_cons_zero, List.getElem_cons_succ, Act.put, List.setIfInBounds_toArray, List.set_cons_zero, List.set_cons_succ]
      refine wpAnyH_take (i := 12) (v := ?_) rfl (by kernel_rfl) (by kernel_rfl) (by kernel_rfl) (fun _ _ _ h => h) (Or.inl ⟨by rfl, ?_⟩) hS ?_
      rotate_left 1
      · intro w hSw; (try dsimp only at hSw); go_simp <;> with_reducible rfl
      simp only [List.getElem_toArray, List.getElem_cons_zero, List.getElem_cons_succ, Act.put, List.setIfInBounds_toArray, List.set_cons_zero, List.set_cons_succ]
      refine wpAnyH_take (i := 13) (v := ?_) rfl (by kernel_rfl) (by kernel_rfl) (by kernel_rfl) (fun _ _ _ h => h) (Or.inl ⟨by rfl, ?_⟩) hS ?_
      rotate_left 1
      · intro w hSw; (try dsimp only at hSw); go_simp <;> with_reducible rfl
      simp only [List.getElem_toArray, List.getElem_cons_zero, List.getElem_cons_succ, Act.put, List.setIfInBounds_toArray, List.set_cons_zero, List.set_cons_succ]
      refine wpAnyH_take (i := 14) (v := ?_) rfl (by kernel_rfl) (by kernel_rfl) (by kernel_rfl) (fun _ _ _ h => h) (Or.inl ⟨by rfl, ?_⟩) hS ?_
      rotate_left 1
      · intro w hSw; (try dsimp only at hSw); go_simp <;> with_reducible rfl
      simp only [List.getElem_toArray, List.getElem_cons_zero, List.getElem_cons_succ, Act.put, List.setIfInBounds_toArray, List.set_cons_zero, List.set_cons_succ]
      refine wpAnyH_done (by kernel_rfl) ?_ _
      go_wp2_with (at_builtin; refine wpList_append_own_any rfl _ (.tmp 25) 24 rfl w.heap.size 5 i0 (.int .u8 0) 1 1 Tryd.underlying24 hi hz0 hz1 hz2 rfl (by decide) (.slice none 0 0) 0 [] rfl (World.ownsRow_nil _ _ _ _) (some ⟨b, off, none⟩) n cap ((zs.take n).map (Value.int .u8)) rfl (by rw [List.length_map, Nat.mul_one]; exact HLT.out) (by intro h; cases h) (hS.take n).news (ints_oneCell _ _) (by unfold maxLen; omega) (by omega) (by simp) ?_; intro v8 w8 hown8 hgrow8)
      · have hne : (X != (C : Int)) = true := by assumption
        have ho : openB zs = false := by rw [HOB.out]; simpa using hne
        rw [ho, opened_no ho]
        go_ret2
        exact ⟨_, rfl, World.ownsRow_nil _ _ _ _, ((Below.refl _ _).alloc (Nat.le_refl _) _).drew⟩
      · have hne : (X != (C : Int)) = false := by assumption
        have ho : openB zs = true := by rw [HOB.out]; simpa using hne
        rw [ho, HYES.out ho, HLT.out]
        rw [Nat.zero_add, List.nil_append] at hown8
        go_ret2
        exact ⟨_, rfl, hown8, (((Below.refl _ _).alloc (Nat.le_refl _) _).drew).grown hgrow8 (by simp) (fun k hk => by cases hk)⟩
    · clear hdr
      go_simp
      refine hK.out _ _ hS2 (fun hS => ?_)
      clear hK K
      try simp only [List.getElem_toArray, List.getElem_cons_zero, List.getElem_cons_succ, Act.put, List.setIfInBounds_toArray, List.set_cons_zero, List.set_cons_succ]
      refine wpAnyH_ready (rs := [6]) (by kernel_rfl) (by simp) ?_
      refine AllReadyH.cons rfl (fun K hK => ?_) AllReadyH.nil
      go_simp
      refine Calls.mono (HBIG.out _ hS) ?_
      rintro e w5 ⟨rfl, rfl⟩
      refine hK.out _ _ hS (fun hS => ?_)
      clear hK K
      try simp only [List.getElem_toArray, List.getElem_cons_zero, List.getElem_cons_succ, Act.put, List.setIfInBounds_toArray, List.set_cons_zero, List.set_cons_succ]
      refine wpAnyH_ready (rs := [11]) (by kernel_rfl) (by simp) ?_
      refine AllReadyH.cons rfl (fun K hK => ?_) AllReadyH.nil
      go_simp
      refine Calls.mono HSUM.out ?_
      rintro e w6 ⟨rfl, rfl⟩
      refine hK.out _ _ hS (fun hS => ?_)
      clear hK K
      try simp only [List.getElem_toArray, List.getElem_cons_zero, List.getElem_cons_succ, Act.put, List.setIfInBounds_toArray, List.set_cons_zero, List.set_cons_succ]
      refine wpAnyH_take (i := 12) (v := ?_) rfl (by kernel_rfl) (by kernel_rfl) (by kernel_rfl) (fun _ _ _ h => h) (Or.inl ⟨by rfl, ?_⟩) hS ?_
      rotate_left 1
      · intro w hSw; (try dsimp only at hSw); go_simp <;> with_reducible rfl
      simp only [List.getElem_toArray, List.getElem_cons_zero, List.getElem_cons_succ, Act.put, List.setIfInBounds_toArray, List.set_cons_zero, List.set_cons_succ]
      refine wpAnyH_take (i := 13) (v := ?_) rfl (by kernel_rfl) (by kernel_rfl) (by kernel_rfl) (fun _ _ _ h => h) (Or.inl ⟨by rfl, ?_⟩) hS ?_
      rotate_left 1
      · intro w hSw; (try dsimp only at hSw); go_simp <;> with_reducible rfl
      simp only [List.getElem_toArray, List.getElem_cons_zero, List.getElem_cons_succ, Act.put, List.setIfInBounds_toArray, List.set_cons_zero, List.set_cons_succ]
      refine wpAnyH_take (i := 14) (v := ?_) rfl (by kernel_rfl) (by kernel_rfl) (by kernel_rfl) (fun _ _ _ h => h) (Or.inl ⟨by rfl, ?_⟩) hS ?_
      rotate_left 1
      · intro w hSw; (try dsimp only at hSw); go_simp <;> with_reducible rfl
      simp only [List.getElem_toArray, List.getElem_cons_zero, List.getElem_cons_succ, Act.put, List.setIfInBounds_toArray, List.set_cons_zero, List.set_cons_succ]
      refine wpAnyH_done (by kernel_rfl) ?_ _
      go_wp2_with (at_builtin; refine wpList_append_own_any rfl _ (.tmp 25) 24 rfl w.heap.size 5 i0 (.int .u8 0) 1 1 Tryd.underlying24 hi hz0 hz1 hz2 rfl (by decide) (.slice none 0 0) 0 [] rfl (World.ownsRow_nil _ _ _ _) (some ⟨b, off, none⟩) n cap ((zs.take n).map (Value.int .u8)) rfl (by rw [List.length_map, Nat.mul_one]; exact HLT.out) (by intro h; cases h) (hS.take n).news (ints_oneCell _ _) (by unfold maxLen; omega) (by omega) (by simp) ?_; intro v8 w8 hown8 hgrow8)
      · have hne : (X != (C : Int)) = true := by assumption
        have ho : openB zs = false := by rw [HOB.out]; simpa using hne
        rw [ho, opened_no ho]
        go_ret2
        exact ⟨_, rfl, World.ownsRow_nil _ _ _ _, ((Below.refl _ _).alloc (Nat.le_refl _) _).drew⟩
      · have hne : (X != (C : Int)) = false := by assumption
        have ho : openB zs = true := by rw [HOB.out]; simpa using hne
        rw [ho, HYES.out ho, HLT.out]
        rw [Nat.zero_add, List.nil_append] at hown8
        go_ret2
        exact ⟨_, rfl, hown8, (((Below.refl _ _).alloc (Nat.le_refl _) _).drew).grown hgrow8 (by simp) (fun k hk => by cases hk)⟩
  · have hoB : openB zs = false := by unfold openB; rw [← hL]; simp [h4]
    rw [← hL] at hc ⊢
    rw [hoB, opened_no hoB]
    have hmc : (cap : Int) ≤ 9223372036854775807 := by unfold maxLen at hm; omega
    have d0 : decide ((L : Int) - 4 < 0) = true := by simp; omega
    have d1 : (L : Int) - 4 < 0 := by omega
    clear hL hoB
    go_enter Tryd.func24, Tryd.ntmps24
    go_wp2
    refine wp_region_held_drew (S := fun _ => True) (by kernel_rfl) trivial (fun hS => ?_)
    refine wpAnyH_take (i := 0) (v := ?_) rfl (by kernel_rfl) (by kernel_rfl) (by kernel_rfl) (fun _ _ _ h => h) (Or.inl ⟨by rfl, ?_⟩) hS ?_
    rotate_left 1
    · intro w hSw; (try dsimp only at hSw); go_simp <;> with_reducible rfl
    simp only [List.getElem_toArray, List.getElem_cons_zero, List.getElem_cons_succ, Act.put, List.setIfInBounds_toArray, List.set_cons_zero, List.set_cons_succ]
    refine wpAnyH_take (i := 1) (v := ?_) rfl (by kernel_rfl) (by kernel_rfl) (by kernel_rfl) (fun _ _ _ h => h) (Or.inl ⟨by rfl, ?_⟩) hS ?_
    rotate_left 1
    · intro w hSw; (try dsimp only at hSw); go_simp <;> with_reducible rfl
    simp only [List.getElem_toArray, List.getElem_cons_zero, List.getElem_cons_succ, Act.put, List.setIfInBounds_toArray, List.set_cons_zero, List.set_cons_succ]
    refine wpAnyH_take (i := 2) (v := ?_) rfl (by kernel_rfl) (by kernel_rfl) (by kernel_rfl) (fun _ _ _ h => h) (Or.inl ⟨by rfl, ?_⟩) hS ?_
    rotate_left 1
    · intro w hSw; (try dsimp only at hSw); go_simp <;> with_reducible rfl
    simp only [List.getElem_toArray, List.getElem_cons_zero, List.getElem_cons_succ, Act.put, List.setIfInBounds_toArray, List.set_cons_zero, List.set_cons_succ]
    refine wpAnyH_take (i := 3) (v := _) rfl (by kernel_rfl) (by kernel_rfl) (by kernel_rfl) (fun _ _ _ h => h) (Or.inr ⟨by rfl, rfl⟩) hS ?_
    simp only [List.getElem_toArray, List.getElem_cons_zero, List.getElem_cons_succ, Act.put, List.setIfInBounds_toArray, List.set_cons_zero, List.set_cons_succ]
    refine wpAnyH_take (i := 4) (v := _) rfl (by kernel_rfl) (by kernel_rfl) (by kernel_rfl) (fun _ _ _ h => h) (Or.inr ⟨by rfl, rfl⟩) hS ?_
    simp only [List.getElem_toArray, List.getElem_cons_zero, List.getElem_cons_succ, Act.put, List.setIfInBounds_toArray, List.set_cons_zero, List.set_cons_succ]
    refine wpAnyH_take (i := 5) (v := _) rfl (by kernel_rfl) (by kernel_rfl) (by kernel_rfl) (fun _ _ _ h => h) (Or.inr ⟨by rfl, rfl⟩) hS ?_
    simp only [List.getElem_toArray, List.getElem_cons_zero, List.getElem_cons_succ, Act.put, List.setIfInBounds_toArray, List.set_cons_zero, List.set_cons_succ]
    refine wpAnyH_take (i := 6) (v := _) rfl (by kernel_rfl) (by kernel_rfl) (by kernel_rfl) (fun _ _ _ h => h) (Or.inr ⟨by rfl, rfl⟩) hS ?_
    simp only [List.getElem_toArray, List.getElem_cons_zero, List.getElem_cons_succ, Act.put, List.setIfInBounds_toArray, List.set_cons_zero, List.set_cons_succ]
    refine wpAnyH_take (i := 7) (v := _) rfl (by kernel_rfl) (by kernel_rfl) (by kernel_rfl) (fun _ _ _ h => h) (Or.inr ⟨by rfl, rfl⟩) hS ?_
    simp only [List.getElem_toArray, List.getElem_cons_zero, List.getElem_cons_succ, Act.put, List.setIfInBounds_toArray, List.set_cons_zero, List.set_cons_succ]
    refine wpAnyH_take (i := 8) (v := _) rfl (by kernel_rfl) (by kernel_rfl) (by kernel_rfl) (fun _ _ _ h => h) (Or.inr ⟨by rfl, rfl⟩) hS ?_
    simp only [List.getElem_toArray, List.getElem_cons_zero, List.getElem_cons_succ, Act.put, List.setIfInBounds_toArray, List.set_cons_zero, List.set_cons_succ]
    refine wpAnyH_take (i := 9) (v := _) rfl (by kernel_rfl) (by kernel_rfl) (by kernel_rfl) (fun _ _ _ h => h) (Or.inr ⟨by rfl, rfl⟩) hS ?_
    simp only [List.getElem_toArray, List.getElem_cons_zero, List.getElem_cons_succ, Act.put, List.setIfInBounds_toArray, List.set_cons_zero, List.set_cons_succ]
    refine wpAnyH_take (i := 10) (v := _) rfl (by kernel_rfl) (by kernel_rfl) (by kernel_rfl) (fun _ _ _ h => h) (Or.inr ⟨by rfl, rfl⟩) hS ?_
    simp only [List.getElem_toArray, List.getElem_cons_zero, List.getElem_cons_succ, Act.put, List.setIfInBounds_toArray, List.set_cons_zero, List.set_cons_succ]
    refine wpAnyH_take (i := 11) (v := _) rfl (by kernel_rfl) (by kernel_rfl) (by kernel_rfl) (fun _ _ _ h => h) (Or.inr ⟨by rfl, rfl⟩) hS ?_
    simp only [List.getElem_toArray, List.getElem_cons_zero, List.getElem_cons_succ, Act.put, List.setIfInBounds_toArray, List.set_cons_zero, List.set_cons_succ]
    refine wpAnyH_take (i := 12) (v := _) rfl (by kernel_rfl) (by kernel_rfl) (by kernel_rfl) (fun _ _ _ h => h) (Or.inr ⟨by rfl, rfl⟩) hS ?_
    simp only [List.getElem_toArray, List.getElem_cons_zero, List.getElem_cons_succ, Act.put, List.setIfInBounds_toArray, List.set_cons_zero, List.set_cons_succ]
    refine wpAnyH_take (i := 13) (v := _) rfl (by kernel_rfl) (by kernel_rfl) (by kernel_rfl) (fun _ _ _ h => h) (Or.inr ⟨by rfl, rfl⟩) hS ?_
    simp only [List.getElem_toArray, List.getElem_cons_zero, List.getElem_cons_succ, Act.put, List.setIfInBounds_toArray, List.set_cons_zero, List.set_cons_succ]
    refine wpAnyH_take (i := 14) (v := ?_) rfl (by kernel_rfl) (by kernel_rfl) (by kernel_rfl) (fun _ _ _ h => h) (Or.inl ⟨by rfl, ?_⟩) hS ?_
    rotate_left 1
    · intro w hSw; (try dsimp only at hSw); go_simp <;> with_reducible rfl
    simp only [List.getElem_toArray, List.getElem_cons_zero, List.getElem_cons_succ, Act.put, List.setIfInBounds_toArray, List.set_cons_zero, List.set_cons_succ]
    refine wpAnyH_done (by kernel_rfl) ?_ _
    go_wp2
    go_ret2
    exact ⟨_, rfl, World.ownsRow_nil _ _ _ _, (Below.refl _ _).drew⟩
end Go.Proofs.YtpffjeoiacaihaaDoor

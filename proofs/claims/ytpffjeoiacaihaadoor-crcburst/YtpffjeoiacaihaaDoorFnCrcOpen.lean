/-
  Walk of crc.Open: what stands ahead of the last four bytes, if these are its checksum's.
-/
import Derived.Test.YtpffjeoiacaihaaDoorFnCrcSeal
import Derived.Test.YtpffjeoiacaihaaDoorFnRefOpen
import Derived.Test.YtpffjeoiacaihaaDoorLibEqual
import Derived.Test.YtpffjeoiacaihaaDoorLibClone
namespace Go.Proofs.YtpffjeoiacaihaaDoor
open Go.RowKit NumMath
set_option maxRecDepth 100000
set_option linter.unusedVariables false
set_option linter.unusedSimpArgs false

/-- Four bytes are those of a number just if they tell it. -/
theorem four_are (l : List Int) (hl : l.length = 4) (hb : ∀ c ∈ l, 0 ≤ c ∧ c ≤ 255) (C : Nat) (hC : C < 4294967296) : decide (l = fixL 4 (C : Int)) = (bigL l == (C : Int)) := by
  have h4 : (256 : Int) ^ 4 = 4294967296 := by decide
  by_cases h : l = fixL 4 (C : Int)
  · have : bigL l = (C : Int) := by rw [h, big_fix 4 _ (by omega), h4, Int.emod_eq_of_lt (by omega) (by omega)]
    simp [h]; rw [← h]; exact this
  · have : bigL l ≠ (C : Int) := fun e => h (by
      have := fix_bigL l hb
      rw [hl, e] at this
      exact this.symm)
    simp [h, this]

set_option maxHeartbeats 1600000 in
theorem crcOpen_any (a : Option Addr) (zs : List Int) (cap : Nat) (w : World) (ht : Tab w) (hr : Row .u8 w a zs) (hb : ∀ c ∈ zs, 0 ≤ c ∧ c ≤ 255) (hc : zs.length ≤ cap) (hm : cap ≤ maxLen) (hnil : a = none → cap = 0) (hs : zs.length ≤ 140737488355328) :
    Calls Tryd.prog 21 #[.slice a zs.length cap] w fun e w' => ∃ v, e = .returned (.tuple #[v, .bool (openB zs)]) ∧ Bytes w' v (opened zs) ∧ Below w.heap.size w w' := by
  obtain ⟨L, hL⟩ : ∃ L, L = zs.length := ⟨_, rfl⟩
  by_cases h4 : 4 ≤ L
  · have hoB : openB zs = openQ zs := by unfold openB; rw [← hL]; simp [h4]
    obtain ⟨n, hn⟩ : ∃ n, n = L - 4 := ⟨_, rfl⟩
    have hLn : (L : Int) - 4 = (n : Int) := by omega
    have hmc : (cap : Int) ≤ 9223372036854775807 := by unfold maxLen at hm; omega
    have hlt : (zs.take n).length = n := by rw [List.length_take]; omega
    have hld : (zs.drop n).length = L - n := by rw [List.length_drop]; omega
    have hne : zs ≠ [] := by intro h; rw [h] at hL; simp at hL; omega
    obtain ⟨b, off, ha, hcell⟩ := hr.resolve_left hne
    subst ha
    have hrd : ∀ w', Row .u8 w' (some ⟨b, off, none⟩) zs → Row .u8 w' (if cap = n then some ⟨b, off, none⟩ else some ⟨b, off + n, none⟩) (zs.drop n) := by
      intro w' h
      have h2 : Row .u8 w' (some ⟨b, off, none⟩) (zs.take n ++ zs.drop n) := by rw [List.take_append_drop]; exact h
      exact Row.rest (c := cap) h2 hlt (by rw [List.take_append_drop]; omega) (by intro hh; rw [if_neg hh])
    have hbd : ∀ c ∈ zs.drop n, 0 ≤ c ∧ c ≤ 255 := fun c hc => hb c (List.mem_of_mem_drop hc)
    obtain ⟨C, hC⟩ : ∃ C : Nat, C = crcOf (zs.take n) := ⟨_, rfl⟩
    have hCl : C < 4294967296 := by rw [hC]; exact crcOf_lt (bytes_take hb n)
    have HTR : Hid (Calls Tryd.prog 43 #[.slice (some ⟨b, off, none⟩) n cap] w.drew fun e w' => ∃ v, e = .returned v ∧ Bytes w' v (fixL 4 (C : Int)) ∧ Below w.heap.size w.drew w') := by
      have := trailer_any (some ⟨b, off, none⟩) (zs.take n) cap w.drew (ht.later ((Below.refl _ _).drew)) (hr.take n).drew (bytes_take hb n) (by rw [hlt]; omega) hm
      rw [hlt, ← hC] at this
      exact this
    have HEQ : Hid (∀ w' a2 c2, Row .u8 w' (some ⟨b, off, none⟩) zs → Row .u8 w' a2 (fixL 4 (C : Int)) → Calls Tryd.prog 44 #[.slice (if cap = n then some ⟨b, off, none⟩ else some ⟨b, off + n, none⟩) (L - n) (cap - n), .slice a2 4 c2] w' fun e w'' => e = .returned (.bool (openB zs)) ∧ w'' = w') := by
      intro w' a2 c2 h1 h2
      have := equal_any _ (zs.drop n) (cap - n) a2 (fixL 4 (C : Int)) c2 w' (hrd w' h1) h2 hbd (fixL_byte 4 _)
      rw [hld, fixL_len, four_are _ (by rw [hld]; omega) hbd C hCl] at this
      have hQ : openQ zs = (bigL (zs.drop n) == (C : Int)) := by unfold openQ; rw [← hL, ← hn, ← hC]
      rw [hoB, hQ]
      exact this
    have HYES : Hid (openB zs = true → opened zs = zs.take n) := by intro h; have := opened_yes h; rw [← hL, ← hn] at this; exact this
    have HCL : Hid (∀ w', Below w.heap.size w w' → Calls Tryd.prog 45 #[.slice (some ⟨b, off, none⟩) n cap] w' fun e w'' => ∃ v, e = .returned v ∧ Bytes w'' v (zs.take n) ∧ Below w'.heap.size w' w'') := by
      intro w' hB
      have := clone_any (some ⟨b, off, none⟩) (zs.take n) cap w' ((hr.take n).later hB) (by rw [hlt]; omega) (by intro h; cases h) (by rw [hlt]; omega)
      rw [hlt] at this
      refine this.mono ?_
      rintro e w'' ⟨v, rfl, hown, hB'⟩
      exact ⟨v, rfl, own_bytes hown (bytes_take hb n), hB'⟩
    have b1 : 0 ≤ (n : Int) := by omega
    have b2 : (n : Int) ≤ (cap : Int) := by omega
    have b3 : (n : Int) ≤ (L : Int) := by omega
    have d0 : decide ((n : Int) < 0) = false := by simp
    have hdr := hr.drew
    rw [← hL] at hc hs ⊢
    have HFL := fixL_len 4 (C : Int)
    obtain ⟨B, hB⟩ : ∃ B, B = openB zs := ⟨_, rfl⟩
    rw [← hB] at HEQ HYES ⊢
    have HB : Hid (B = openB zs) := hB
    clear hoB hC hn hrd hbd hld hlt hL hne hcell hnil hB ht
    go_enter Tryd.func21, Tryd.ntmps21
    go_wp2
    refine wp_region_held_drew (S := fun w' => Row .u8 w' (some ⟨b, off, none⟩) zs) (by kernel_rfl) hdr (fun hS => ?_)
    refine wpAnyH_take (i := 0) (v := ?_) rfl (by kernel_rfl) (by kernel_rfl) (by kernel_rfl) (fun _ _ _ h => h) (Or.inl ⟨by rfl, ?_⟩) hS ?_
    rotate_left 1
    · intro w hSw; (try dsimp only at hSw); go_simp <;> with_reducible rfl
    simp only [List.getElem_toArray, List.getElem_cons_zero, List.getElem_cons_succ, Act.put, List.setIfInBounds_toArray, List.set_cons_zero, List.set_cons_succ]
    refine wpAnyH_take (i := 1) (v := ?_) rfl (by kernel_rfl) (by kernel_rfl) (by kernel_rfl) (fun _ _ _ h => h) (Or.inl ⟨by rfl, ?_⟩) hS ?_
    rotate_left 1
    · intro w hSw; (try dsimp only at hSw); go_simp <;> with_reducible rfl
    simp only [List.getElem_toArray, List.getElem_cons_zero, List.getElem_cons_succ, Act.put, List.setIfInBounds_toArray, List.set_cons_zero, List.set_cons_succ]
    refine wpAnyH_take (i := 2) (v := ?_) rfl (by kernel_rfl) (by kernel_rfl) (by kernel_rfl) (fun _ _ _ h => h) (Or.inl ⟨by rfl, ?_⟩) hS ?_
    rotate_left 1
    · intro w hSw; (try dsimp only at hSw); go_simp <;> with_reducible rfl
    simp only [List.getElem_toArray, List.getElem_cons_zero, List.getElem_cons_succ, Act.put, List.setIfInBounds_toArray, List.set_cons_zero, List.set_cons_succ]
    refine wpAnyH_take (i := 3) (v := ?_) rfl (by kernel_rfl) (by kernel_rfl) (by kernel_rfl) (fun _ _ _ h => h) (Or.inl ⟨by rfl, ?_⟩) hS ?_
    rotate_left 1
    · intro w hSw; (try dsimp only at hSw); go_simp <;> with_reducible rfl
    simp only [List.getElem_toArray, List.getElem_cons_zero, List.getElem_cons_succ, Act.put, List.setIfInBounds_toArray, List.set_cons_zero, List.set_cons_succ]
    refine wpAnyH_take (i := 4) (v := ?_) rfl (by kernel_rfl) (by kernel_rfl) (by kernel_rfl) (fun _ _ _ h => h) (Or.inl ⟨by rfl, ?_⟩) hS ?_
    rotate_left 1
    · intro w hSw; (try dsimp only at hSw); go_simp <;> with_reducible rfl
    simp only [List.getElem_toArray, List.getElem_cons_zero, List.getElem_cons_succ, Act.put, List.setIfInBounds_toArray, List.set_cons_zero, List.set_cons_succ]
    refine wpAnyH_take (i := 5) (v := ?_) rfl (by kernel_rfl) (by kernel_rfl) (by kernel_rfl) (fun _ _ _ h => h) (Or.inl ⟨by rfl, ?_⟩) hS ?_
    rotate_left 1
    · intro w hSw; (try dsimp only at hSw); go_simp <;> with_reducible rfl
    simp only [List.getElem_toArray, List.getElem_cons_zero, List.getElem_cons_succ, Act.put, List.setIfInBounds_toArray, List.set_cons_zero, List.set_cons_succ]
    refine wpAnyH_take (i := 6) (v := ?_) rfl (by kernel_rfl) (by kernel_rfl) (by kernel_rfl) (fun _ _ _ h => h) (Or.inl ⟨by rfl, ?_⟩) hS ?_
    rotate_left 1
    · intro w hSw; (try dsimp only at hSw); go_simp <;> with_reducible rfl
    simp only [List.getElem_toArray, List.getElem_cons_zero, List.getElem_cons_succ, Act.put, List.setIfInBounds_toArray, List.set_cons_zero, List.set_cons_succ]
    refine wpAnyH_take (i := 7) (v := ?_) rfl (by kernel_rfl) (by kernel_rfl) (by kernel_rfl) (fun _ _ _ h => h) (Or.inl ⟨by rfl, ?_⟩) hS ?_
    rotate_left 1
    · intro w hSw; (try dsimp only at hSw); go_simp <;> with_reducible rfl
    simp only [List.getElem_toArray, List.getElem_cons_zero, List.getElem_cons_succ, Act.put, List.setIfInBounds_toArray, List.set_cons_zero, List.set_cons_succ]
    refine wpAnyH_take (i := 8) (v := ?_) rfl (by kernel_rfl) (by kernel_rfl) (by kernel_rfl) (fun _ _ _ h => h) (Or.inl ⟨by rfl, ?_⟩) hS ?_
    rotate_left 1
    · intro w hSw; (try dsimp only at hSw); go_simp <;> with_reducible rfl
    simp only [List.getElem_toArray, List.getElem_cons_zero, List.getElem_cons_succ, Act.put, List.setIfInBounds_toArray, List.set_cons_zero, List.set_cons_succ]
    refine wpAnyH_ready (rs := [9]) (by kernel_rfl) (by simp) ?_
    refine AllReadyH.cons rfl (fun K hK => ?_) AllReadyH.nil
    clear hdr
    go_simp
    refine Calls.mono HTR.out ?_
    rintro e w5 ⟨v5, rfl, ⟨a5, c5, rfl, hr5, hb5, hc5, hm5, hn5⟩, hB5⟩
    have hB05 : Below w.heap.size w w5 := ((Below.refl _ _).drew).trans hB5
    have hS5 := hr.later hB05
    rw [HFL] at hc5 ⊢
    refine hK.out _ _ hS5 (fun hS => ?_)
    clear hK K
    try simp only [List.getElem_toArray, List.getElem_cons_zero, List.getElem_cons_succ, Act.put, List.setIfInBounds_toArray, List.set_cons_zero, List.set_cons_succ]
    refine wpAnyH_ready (rs := [10]) (by kernel_rfl) (by simp) ?_
    refine AllReadyH.cons rfl (fun K hK => ?_) AllReadyH.nil
    go_simp
    refine Calls.mono (HEQ.out w5 a5 c5 hS hr5) ?_
    rintro e w6 ⟨rfl, rfl⟩
    refine hK.out _ _ hS (fun hS => ?_)
    clear hK K hr5
    try simp only [List.getElem_toArray, List.getElem_cons_zero, List.getElem_cons_succ, Act.put, List.setIfInBounds_toArray, List.set_cons_zero, List.set_cons_succ]
    refine wpAnyH_take (i := 11) (v := ?_) rfl (by kernel_rfl) (by kernel_rfl) (by kernel_rfl) (fun _ _ _ h => h) (Or.inl ⟨by rfl, ?_⟩) hS ?_
    rotate_left 1
    · intro w hSw; (try dsimp only at hSw); go_simp <;> with_reducible rfl
    simp only [List.getElem_toArray, List.getElem_cons_zero, List.getElem_cons_succ, Act.put, List.setIfInBounds_toArray, List.set_cons_zero, List.set_cons_succ]
    refine wpAnyH_take (i := 12) (v := ?_) rfl (by kernel_rfl) (by kernel_rfl) (by kernel_rfl) (fun _ _ _ h => h) (Or.inl ⟨by rfl, ?_⟩) hS ?_
    rotate_left 1
    · intro w hSw; (try dsimp only at hSw); go_simp <;> with_reducible rfl
    simp only [List.getElem_toArray, List.getElem_cons_zero, List.getElem_cons_succ, Act.put, List.setIfInBounds_toArray, List.set_cons_zero, List.set_cons_succ]
    refine wpAnyH_done (by kernel_rfl) ?_ _
    cases B with
    | false =>
      go_wp2
      go_ret2
      exact ⟨_, rfl, by rw [opened_no HB.out.symm]; exact own_bytes (World.ownsRow_nil _ w.heap.size _ _) (by simp), hB05⟩
    | true =>
      go_wp2_with (go_at_call 45; refine Calls.mono (HCL.out _ hB05) ?_; rintro e w7 ⟨v7, rfl, hbs7, hB7⟩)
      go_ret2
      exact ⟨_, rfl, by rw [HYES.out trivial]; exact hbs7, hB05.trans (hB7.mono hB05.size)⟩
  · have hoB : openB zs = false := by unfold openB; rw [← hL]; simp [h4]
    rw [← hL] at hc ⊢
    rw [hoB, opened_no hoB]
    have hmc : (cap : Int) ≤ 9223372036854775807 := by unfold maxLen at hm; omega
    have d0 : decide ((L : Int) - 4 < 0) = true := by simp; omega
    have d1 : (L : Int) - 4 < 0 := by omega
    clear hL hoB ht
    go_enter Tryd.func21, Tryd.ntmps21
    go_wp2
    refine wp_region_held_drew (S := fun _ => True) (by kernel_rfl) trivial (fun hS => ?_)
    refine wpAnyH_take (i := 0) (v := ?_) rfl (by kernel_rfl) (by kernel_rfl) (by kernel_rfl) (fun _ _ _ h => h) (Or.inl ⟨by rfl, ?_⟩) hS ?_
    rotate_left 1
    · intro w hSw; (try dsimp only at hSw); go_simp <;> with_reducible rfl
    simp only [List.getElem_toArray, List.getElem_cons_zero, List.getElem_cons_succ, Act.put, List.setIfInBounds_toArray, List.set_cons_zero, List.set_cons_succ]
    refine wpAnyH_take (i := 1) (v := ?_) rfl (by kernel_rfl) (by kernel_rfl) (by kernel_rfl) (fun _ _ _ h => h) (Or.inl ⟨by rfl, ?_⟩) hS ?_
    rotate_left 1
    · intro w hSw; (try dsimp only at hSw); go_simp <;> with_reducible rfl
    simp only [List.getElem_toArray, List.getElem_cons_zero, List.getElem_cons_succ, Act.put, List.setIfInBounds_toArray, List.set_cons_zero, List.set_cons_succ]
    refine wpAnyH_take (i := 2) (v := ?_) rfl (by kernel_rfl) (by kernel_rfl) (by kernel_rfl) (fun _ _ _ h => h) (Or.inl ⟨by rfl, ?_⟩) hS ?_
    rotate_left 1
    · intro w hSw; (try dsimp only at hSw); go_simp <;> with_reducible rfl
    simp only [List.getElem_toArray, List.getElem_cons_zero, List.getElem_cons_succ, Act.put, List.setIfInBounds_toArray, List.set_cons_zero, List.set_cons_succ]
    refine wpAnyH_take (i := 3) (v := _) rfl (by kernel_rfl) (by kernel_rfl) (by kernel_rfl) (fun _ _ _ h => h) (Or.inr ⟨by rfl, rfl⟩) hS ?_
    simp only [List.getElem_toArray, List.getElem_cons_zero, List.getElem_cons_succ, Act.put, List.setIfInBounds_toArray, List.set_cons_zero, List.set_cons_succ]
    refine wpAnyH_take (i := 4) (v := _) rfl (by kernel_rfl) (by kernel_rfl) (by kernel_rfl) (fun _ _ _ h => h) (Or.inr ⟨by rfl, rfl⟩) hS ?_
    simp only [List.getElem_toArray, List.getElem_cons_zero, List.getElem_cons_succ, Act.put, List.setIfInBounds_toArray, List.set_cons_zero, List.set_cons_succ]
    refine wpAnyH_take (i := 5) (v := _) rfl (by kernel_rfl) (by kernel_rfl) (by kernel_rfl) (fun _ _ _ h => h) (Or.inr ⟨by rfl, rfl⟩) hS ?_
    simp only [List.getElem_toArray, List.getElem_cons_zero, List.getElem_cons_succ, Act.put, List.setIfInBounds_toArray, List.set_cons_zero, List.set_cons_succ]
    refine wpAnyH_take (i := 6) (v := _) rfl (by kernel_rfl) (by kernel_rfl) (by kernel_rfl) (fun _ _ _ h => h) (Or.inr ⟨by rfl, rfl⟩) hS ?_
    simp only [List.getElem_toArray, List.getElem_cons_zero, List.getElem_cons_succ, Act.put, List.setIfInBounds_toArray, List.set_cons_zero, List.set_cons_succ]
    refine wpAnyH_take (i := 7) (v := _) rfl (by kernel_rfl) (by kernel_rfl) (by kernel_rfl) (fun _ _ _ h => h) (Or.inr ⟨by rfl, rfl⟩) hS ?_
    simp only [List.getElem_toArray, List.getElem_cons_zero, List.getElem_cons_succ, Act.put, List.setIfInBounds_toArray, List.set_cons_zero, List.set_cons_succ]
    refine wpAnyH_take (i := 8) (v := _) rfl (by kernel_rfl) (by kernel_rfl) (by kernel_rfl) (fun _ _ _ h => h) (Or.inr ⟨by rfl, rfl⟩) hS ?_
    simp only [List.getElem_toArray, List.getElem_cons_zero, List.getElem_cons_succ, Act.put, List.setIfInBounds_toArray, List.set_cons_zero, List.set_cons_succ]
    refine wpAnyH_take (i := 9) (v := _) rfl (by kernel_rfl) (by kernel_rfl) (by kernel_rfl) (fun _ _ _ h => h) (Or.inr ⟨by rfl, rfl⟩) hS ?_
    simp only [List.getElem_toArray, List.getElem_cons_zero, List.getElem_cons_succ, Act.put, List.setIfInBounds_toArray, List.set_cons_zero, List.set_cons_succ]
    refine wpAnyH_take (i := 10) (v := _) rfl (by kernel_rfl) (by kernel_rfl) (by kernel_rfl) (fun _ _ _ h => h) (Or.inr ⟨by rfl, rfl⟩) hS ?_
    simp only [List.getElem_toArray, List.getElem_cons_zero, List.getElem_cons_succ, Act.put, List.setIfInBounds_toArray, List.set_cons_zero, List.set_cons_succ]
    refine wpAnyH_take (i := 11) (v := _) rfl (by kernel_rfl) (by kernel_rfl) (by kernel_rfl) (fun _ _ _ h => h) (Or.inr ⟨by rfl, rfl⟩) hS ?_
    simp only [List.getElem_toArray, List.getElem_cons_zero, List.getElem_cons_succ, Act.put, List.setIfInBounds_toArray, List.set_cons_zero, List.set_cons_succ]
    refine wpAnyH_take (i := 12) (v := ?_) rfl (by kernel_rfl) (by kernel_rfl) (by kernel_rfl) (fun _ _ _ h => h) (Or.inl ⟨by rfl, ?_⟩) hS ?_
    rotate_left 1
    · intro w hSw; (try dsimp only at hSw); go_simp <;> with_reducible rfl
    simp only [List.getElem_toArray, List.getElem_cons_zero, List.getElem_cons_succ, Act.put, List.setIfInBounds_toArray, List.set_cons_zero, List.set_cons_succ]
    refine wpAnyH_done (by kernel_rfl) ?_ _
    go_wp2
    go_ret2
    exact ⟨_, rfl, own_bytes (World.ownsRow_nil _ w.heap.size _ _) (by simp), (Below.refl _ _).drew⟩
end Go.Proofs.YtpffjeoiacaihaaDoor

/-
  Walks of stamp.Read, newsreelref1.StampRead.
-/
import Derived.Test.YtcgnkembfpcnnaaFnStA
import Derived.Test.YtcgnkembfpcnnaaFnBig
import Derived.Test.YtcgnkembfpcnnaaFnRefBig
namespace Go.Proofs.Ytcgnkembfpcnnaa
open Go.RowKit NumMath
open StMath (St cmpI or3)
set_option maxRecDepth 100000
set_option linter.unusedVariables false
set_option linter.unusedSimpArgs false

theorem big_at (a : Option Addr) (zs : List Int) (n cap : Nat) (v : Int) (w : World) (hr : Row .u8 w a zs) (hn : zs.length = n) (hv : bigL (zs.take 8) = v) (hb : ∀ c ∈ zs, 0 ≤ c ∧ c ≤ 255) (hc : n ≤ cap) (hm : cap ≤ maxLen) :
    Calls Try.prog 22 #[.slice a n cap] w fun e w' => e = .returned (.int .u64 v) ∧ w' = w := by
  subst hn hv; exact big_any a zs cap w hr hb hc hm
theorem refBig_at (a : Option Addr) (zs : List Int) (n cap : Nat) (v : Int) (w : World) (hr : Row .u8 w a zs) (hn : zs.length = n) (hv : bigL (zs.take 8) = v) (hb : ∀ c ∈ zs, 0 ≤ c ∧ c ≤ 255) (hc : n ≤ cap) (hm : cap ≤ maxLen) :
    Calls Try.prog 23 #[.slice a n cap] w fun e w' => e = .returned (.int .u64 v) ∧ w' = w := by
  subst hn hv; exact refBig_any a zs cap w hr hb hc hm
/-- From place j on. -/
theorem row_drop {w : World} {b off : Nat} {zs : List Int} (h : ∀ i, i < zs.length → w.cell? ⟨b, off + i, none⟩ = some (.int .u8 (zs[i]?.getD 0))) (j : Nat) : Row .u8 w (some ⟨b, off + j, none⟩) (zs.drop j) := by
  refine .inr ⟨b, off + j, rfl, fun i hi => ?_⟩
  have hi' : j + i < zs.length := by simp at hi; omega
  have := h (j + i) hi'
  rw [List.getD_eq_getElem?_getD, List.getElem?_drop, Nat.add_assoc]
  exact this
theorem i64_wrap {p : Int} (h0 : 0 ≤ p) (h1 : p ≤ 9223372036854775807) : IntKind.i64.wrap p = p := by
  simp [IntKind.wrap, IntKind.bits, IntKind.signed]
  omega

set_option maxRecDepth 100000 in
set_option maxHeartbeats 8000000 in
theorem stRead_any (a : Option Addr) (zs : List Int) (cap : Nat) (w : World) (hr : Row .u8 w a zs) (hb : ∀ c ∈ zs, 0 ≤ c ∧ c ≤ 255) (hc : zs.length ≤ cap) (hm : cap ≤ maxLen) :
    Calls Try.prog 14 #[.slice a zs.length cap] w fun e w' => e = .returned (.tuple #[stV (StMath.read zs).1, .int .i64 (StMath.read zs).2]) ∧ Below w.heap.size w w' := by
  unfold maxLen at hm
  have HA0 : Hid (StAt (w.alloc (.cells #[.int .i64 0, .int .i64 0, .int .i64 0] 23)) w.heap.size StMath.zero) := StAt.new w StMath.zero rfl
  have HB0 : Hid (Below w.heap.size w (w.alloc (.cells #[.int .i64 0, .int .i64 0, .int .i64 0] 23))) := (Below.refl _ _).alloc (Nat.le_refl _) _
  have HR0 : Hid (Row .u8 (w.alloc (.cells #[.int .i64 0, .int .i64 0, .int .i64 0] 23)) a zs) := hr.later HB0.out
  by_cases h1 : zs.length < 9
  · have HQ : Hid (StMath.read zs = (StMath.zero, 20)) := by unfold Hid StMath.read; rw [if_pos h1]
    obtain ⟨n, hn⟩ : ∃ n, n = zs.length := ⟨_, rfl⟩
    rw [← hn] at hc h1 ⊢
    clear hn
    go_enter Try.func14, Try.ntmps14
    go_wp2_with (refine wpList_store_st rfl (.tmp 2) (.tmp 8) rfl w.heap.size StMath.zero StMath.zero rfl rfl HA0.out ?_)
    refine ret_st w.heap.size StMath.zero (.int .i64 20) rfl rfl rfl (StAt.row HA0.out) rfl ⟨by rw [HQ.out], below_setRow HB0.out (Nat.le_refl _) _⟩
  by_cases h2 : 9 < zs.length
  · have HQ : Hid (StMath.read zs = (StMath.zero, 21)) := by unfold Hid StMath.read; rw [if_neg h1, if_pos h2]
    obtain ⟨n, hn⟩ : ∃ n, n = zs.length := ⟨_, rfl⟩
    rw [← hn] at hc h1 h2 ⊢
    clear hn
    go_enter Try.func14, Try.ntmps14
    go_wp2_with (refine wpList_store_st rfl (.tmp 2) (.tmp 12) rfl w.heap.size StMath.zero StMath.zero rfl rfl HA0.out ?_)
    refine ret_st w.heap.size StMath.zero (.int .i64 21) rfl rfl rfl (StAt.row HA0.out) rfl ⟨by rw [HQ.out], below_setRow HB0.out (Nat.le_refl _) _⟩
  have hl : zs.length = 9 := by omega
  have hy := hb _ (mem_getD zs 8 (by omega))
  have b6 := bigL_bd (zs.take 6) (fun c hc => hb c (List.mem_of_mem_take hc))
  have b2 := bigL_bd ((zs.drop 6).take 2) (fun c hc => hb c (List.mem_of_mem_drop (List.mem_of_mem_take hc)))
  have l6 : (zs.take 6).length = 6 := by simp; omega
  have l2 : ((zs.drop 6).take 2).length = 2 := by simp; omega
  rw [l6, show (256 : Int) ^ 6 = 281474976710656 by decide] at b6
  rw [l2, show (256 : Int) ^ 2 = 65536 by decide] at b2
  obtain ⟨b, off, rfl, hcell⟩ : ∃ b off, a = some ⟨b, off, none⟩ ∧ ∀ i, i < zs.length → w.cell? ⟨b, off + i, none⟩ = some (.int .u8 (zs[i]?.getD 0)) := by
    rcases hr with h | h
    · rw [h] at hl; simp at hl
    · exact h
  have HQ : Hid (StMath.read zs = if (64 : Int) ≤ zs[8]?.getD 0 then (StMath.zero, 21) else (⟨bigL (zs.take 6), bigL ((zs.drop 6).take 2), zs[8]?.getD 0⟩, 0)) := by unfold Hid StMath.read; rw [if_neg h1, if_neg h2]
  have HC6 : Hid (∀ w', Below w.heap.size w w' → _) := fun w' (hB : Below w.heap.size w w') => big_at (some ⟨b, off, none⟩) (zs.take 6) 6 cap (bigL (zs.take 6)) w' (Row.later (Row.take hr 6) hB) l6 (by rw [List.take_of_length_le (by omega)]) (fun c hc => hb c (List.mem_of_mem_take hc)) (by omega) (by unfold maxLen; omega)
  have HC2 : Hid (∀ w', Below w.heap.size w w' → _) := fun w' (hB : Below w.heap.size w w') => big_at (some ⟨b, off + 6, none⟩) ((zs.drop 6).take 2) 2 (cap - 6) (bigL ((zs.drop 6).take 2)) w' (Row.later (Row.take (row_drop hcell 6) 2) hB) l2 (by rw [List.take_of_length_le (by omega)]) (fun c hc => hb c (List.mem_of_mem_drop (List.mem_of_mem_take hc))) (by omega) (by unfold maxLen; omega)
  have HC1 : Hid (∀ w', Below w.heap.size w w' → _) := fun w' (hB : Below w.heap.size w w') => big_at (some ⟨b, off + 8, none⟩) (zs.drop 8) 1 (cap - 8) (zs[8]?.getD 0) w' (Row.later (row_drop hcell 8) hB) (by simp; omega) (StMath.big_last hl) (fun c hc => hb c (List.mem_of_mem_drop hc)) (by omega) (by unfold maxLen; omega)
  clear hcell hr HR0
  generalize bigL (zs.take 6) = p at *
  generalize bigL ((zs.drop 6).take 2) = l at *
  have h9 : 9 ≤ cap := by omega
  rw [hl]
  generalize zs[8]?.getD 0 = r at *
  have i6 : (6 : Int) ≤ (cap : Int) := by omega
  have i8 : (8 : Int) ≤ (cap : Int) := by omega
  have i9 : (9 : Int) ≤ (cap : Int) := by omega
  have HRt : Hid (∀ w, _) := fun w => stRight_any ⟨p, l, r⟩ w
  have HRv : Hid (StMath.right ⟨p, l, r⟩ = decide (r < 64)) := by
    unfold Hid StMath.right
    congr 1
    apply propext
    simp only
    omega
  have k0 : IntKind.i64.wrap p = p := i64_wrap b6.1 (by omega)
  have k1 : IntKind.i64.wrap l = l := i64_wrap b2.1 (by omega)
  have k2 : IntKind.i64.wrap r = r := i64_wrap hy.1 (by omega)
  have HL : Hid (zs.length = 9) := hl
  clear l6 l2 hl h1 h2 hc hb
  obtain ⟨h90, h91, h92⟩ : ¬ cap = 6 ∧ ¬ cap = 8 ∧ ¬ cap = 9 - 9 := by omega
  go_enter Try.func14, Try.ntmps14
  go_wp2
  have hs0 : w.heap.size < (w.alloc (.cells #[.int .i64 0, .int .i64 0, .int .i64 0] 23)).drew.heap.size := by simp
  have HA1 : Hid (StAt (w.alloc (.cells #[.int .i64 0, .int .i64 0, .int .i64 0] 23)).drew w.heap.size StMath.zero) := HA0.out.drew
  have HB1 : Hid (Below w.heap.size w (w.alloc (.cells #[.int .i64 0, .int .i64 0, .int .i64 0] 23)).drew) := HB0.out.drew
  refine wp_region_held_drew (S := fun w' => Below w.heap.size w w') (by kernel_rfl) HB1.out (fun hS => ?_)
  refine wpAnyH_take (i := 0) (v := ?_) rfl (by kernel_rfl) (by kernel_rfl) (by kernel_rfl) (fun _ _ _ h => h) (Or.inl ⟨by rfl, ?_⟩) hS ?_
  rotate_left 1
  · intro w hSw; (try dsimp only at hSw); go_simp <;> with_reducible rfl
  simp only [List.getElem_toArray, List.getElem_cons_zero, List.getElem_cons_succ, Act.put, List.setIfInBounds_toArray, List.set_cons_zero, List.set_cons_succ]
  refine wpAnyH_take (i := 1) (v := ?_) rfl (by kernel_rfl) (by kernel_rfl) (by kernel_rfl) (fun _ _ _ h => h) (Or.inl ⟨by rfl, ?_⟩) hS ?_
  rotate_left 1
  · intro w hSw; (try dsimp only at hSw); go_simp <;> with_reducible rfl
  simp only [List.getElem_toArray, List.getElem_cons_zero, List.getElem_cons_succ, Act.put, List.setIfInBounds_toArray, List.set_cons_zero, List.set_cons_succ]
  refine wpAnyH_take (i := 4) (v := ?_) rfl (by kernel_rfl) (by kernel_rfl) (by kernel_rfl) (fun _ _ _ h => h) (Or.inl ⟨by rfl, ?_⟩) hS ?_
  rotate_left 1
  · intro w hSw; (try dsimp only at hSw); go_simp <;> with_reducible rfl
  simp only [List.getElem_toArray, List.getElem_cons_zero, List.getElem_cons_succ, Act.put, List.setIfInBounds_toArray, List.set_cons_zero, List.set_cons_succ]
  refine wpAnyH_take (i := 5) (v := ?_) rfl (by kernel_rfl) (by kernel_rfl) (by kernel_rfl) (fun _ _ _ h => h) (Or.inl ⟨by rfl, ?_⟩) hS ?_
  rotate_left 1
  · intro w hSw; (try dsimp only at hSw); go_simp <;> with_reducible rfl
  simp only [List.getElem_toArray, List.getElem_cons_zero, List.getElem_cons_succ, Act.put, List.setIfInBounds_toArray, List.set_cons_zero, List.set_cons_succ]
  refine wpAnyH_take (i := 8) (v := ?_) rfl (by kernel_rfl) (by kernel_rfl) (by kernel_rfl) (fun _ _ _ h => h) (Or.inl ⟨by rfl, ?_⟩) hS ?_
  rotate_left 1
  · intro w hSw; (try dsimp only at hSw); go_simp <;> with_reducible rfl
  simp only [List.getElem_toArray, List.getElem_cons_zero, List.getElem_cons_succ, Act.put, List.setIfInBounds_toArray, List.set_cons_zero, List.set_cons_succ]
  refine wpAnyH_take (i := 9) (v := ?_) rfl (by kernel_rfl) (by kernel_rfl) (by kernel_rfl) (fun _ _ _ h => h) (Or.inl ⟨by rfl, ?_⟩) hS ?_
  rotate_left 1
  · intro w hSw; (try dsimp only at hSw); go_simp <;> with_reducible rfl
  simp only [List.getElem_toArray, List.getElem_cons_zero, List.getElem_cons_succ, Act.put, List.setIfInBounds_toArray, List.set_cons_zero, List.set_cons_succ]
  generalize (w.alloc (.cells #[.int .i64 0, .int .i64 0, .int .i64 0] 23)).drew = v0 at *
  clear HB1 HA0 HB0
  refine wpAnyH_ready (rs := [2, 13]) (by kernel_rfl) (by simp) ?_
  refine AllReadyH.cons rfl (fun K hK => ?_) (AllReadyH.cons rfl (fun K hK => ?_) AllReadyH.nil)
  · go_simp
    refine Calls.mono (HC6.out _ hS) ?_
    rintro e w2 ⟨rfl, hw2⟩
    rw [hw2]
    clear hw2
    clear w2
    refine hK.out _ _ hS (fun hS => ?_)
    clear hK K
    refine wpAnyH_take (i := 3) (v := ?_) rfl (by kernel_rfl) (by kernel_rfl) (by kernel_rfl) (fun _ _ _ h => h) (Or.inl ⟨by rfl, ?_⟩) hS ?_
    rotate_left 1
    · intro w hSw; (try dsimp only at hSw); go_simp <;> with_reducible rfl
    simp only [List.getElem_toArray, List.getElem_cons_zero, List.getElem_cons_succ, Act.put, List.setIfInBounds_toArray, List.set_cons_zero, List.set_cons_succ]
    refine wpAnyH_ready (rs := [6, 13]) (by kernel_rfl) (by simp) ?_
    refine AllReadyH.cons rfl (fun K hK => ?_) (AllReadyH.cons rfl (fun K hK => ?_) AllReadyH.nil)
    · go_simp
      refine Calls.mono (HC2.out _ hS) ?_
      rintro e w2 ⟨rfl, hw2⟩
      rw [hw2]
      clear hw2
      clear w2
      refine hK.out _ _ hS (fun hS => ?_)
      clear hK K
      refine wpAnyH_take (i := 7) (v := ?_) rfl (by kernel_rfl) (by kernel_rfl) (by kernel_rfl) (fun _ _ _ h => h) (Or.inl ⟨by rfl, ?_⟩) hS ?_
      rotate_left 1
      · intro w hSw; (try dsimp only at hSw); go_simp <;> with_reducible rfl
      simp only [List.getElem_toArray, List.getElem_cons_zero, List.getElem_cons_succ, Act.put, List.setIfInBounds_toArray, List.set_cons_zero, List.set_cons_succ]
      refine wpAnyH_ready (rs := [10, 13]) (by kernel_rfl) (by simp) ?_
      refine AllReadyH.cons rfl (fun K hK => ?_) (AllReadyH.cons rfl (fun K hK => ?_) AllReadyH.nil)
      · go_simp
        refine Calls.mono (HC1.out _ hS) ?_
        rintro e w2 ⟨rfl, hw2⟩
        rw [hw2]
        clear hw2
        clear w2
        refine hK.out _ _ hS (fun hS => ?_)
        clear hK K
        refine wpAnyH_take (i := 11) (v := ?_) rfl (by kernel_rfl) (by kernel_rfl) (by kernel_rfl) (fun _ _ _ h => h) (Or.inl ⟨by rfl, ?_⟩) hS ?_
        rotate_left 1
        · intro w hSw; (try dsimp only at hSw); go_simp <;> with_reducible rfl
        simp only [List.getElem_toArray, List.getElem_cons_zero, List.getElem_cons_succ, Act.put, List.setIfInBounds_toArray, List.set_cons_zero, List.set_cons_succ]
        refine wpAnyH_take (i := 12) (v := ?_) rfl (by kernel_rfl) (by kernel_rfl) (by kernel_rfl) (fun _ _ _ h => h) (Or.inl ⟨by rfl, ?_⟩) hS ?_
        rotate_left 1
        · intro w hSw; (try dsimp only at hSw); go_simp <;> with_reducible rfl
        simp only [List.getElem_toArray, List.getElem_cons_zero, List.getElem_cons_succ, Act.put, List.setIfInBounds_toArray, List.set_cons_zero, List.set_cons_succ]
        refine wpAnyH_ready (rs := [13]) (by kernel_rfl) (by simp) ?_
        refine AllReadyH.cons rfl (fun K hK => ?_) AllReadyH.nil
        go_simp
        have HG : Hid (StAt (v0.alloc (.cells #[.int .i64 0, .int .i64 0, .int .i64 0] 23)) v0.heap.size StMath.zero) := StAt.new v0 StMath.zero rfl
        have HA1 : Hid (StAt (v0.alloc (.cells #[.int .i64 0, .int .i64 0, .int .i64 0] 23)) w.heap.size StMath.zero) := HA1.out.alloc _
        refine hK.out _ _ (hS.alloc (by omega) _) (fun hS => ?_)
        clear hK K
        generalize v0.alloc (.cells #[.int .i64 0, .int .i64 0, .int .i64 0] 23) = v1 at *
        generalize v0.heap.size = gS at *
        refine wpAnyH_ready (rs := [14]) (by kernel_rfl) (by simp) ?_
        refine AllReadyH.cons rfl (fun K hK => ?_) AllReadyH.nil
        have hS0 := hS
        refine wp_store_st (.tmp 4) (.tmp 25) rfl gS StMath.zero ⟨p, l, r⟩ rfl rfl HG.out ?_
        refine hK.out _ _ (below_setRow hS (by omega) _) (fun hS => ?_)
        clear hK K hS
        refine wpAnyH_done (by kernel_rfl) ?_ _
        have HB2 : Hid (Below w.heap.size w (v1.setRow gS (stL ⟨p, l, r⟩).toArray)) := below_setRow hS0 (by omega) _
        have HA2 : Hid (StAt (v1.setRow gS (stL ⟨p, l, r⟩).toArray) w.heap.size StMath.zero) := HA1.out.row_other _ (by omega)
        have HG2 : Hid (StAt (v1.setRow gS (stL ⟨p, l, r⟩).toArray) gS ⟨p, l, r⟩) := HG.out.row
        clear HA1 HG hS0
        generalize v1.setRow gS (stL ⟨p, l, r⟩).toArray = v2 at *
        obtain ⟨d0, d1, d2⟩ := HG2.out.cells
        dsimp only at d0 d1 d2
        go_wp2_with fail
        refine Calls.mono (HRt.out _) ?_
        rintro e v3 ⟨rfl, hb3⟩
        rw [HRv.out]
        clear d0 d1 d2
        have HB3 : Hid (Below w.heap.size w v3) := HB2.out.trans (hb3.mono HB2.out.size)
        have HA3 : Hid (StAt v3 w.heap.size StMath.zero) := HA2.out.later hb3 HA2.out.lt
        have HG3 : Hid (StAt v3 gS ⟨p, l, r⟩) := HG2.out.later hb3 HG2.out.lt
        clear hb3 HA2 HG2 HB2
        by_cases h64 : r < 64
        · rw [show decide (r < 64) = true by simpa using h64]
          have HQ2 : Hid (StMath.read zs = (⟨p, l, r⟩, 0)) := by rw [if_neg (by omega)] at HQ; exact HQ
          obtain ⟨d0, d1, d2⟩ := HG3.out.cells
          dsimp only at d0 d1 d2
          go_wp2_with (refine wpList_store_st rfl (.tmp 2) (.tmp 30) rfl w.heap.size StMath.zero ⟨p, l, r⟩ rfl rfl HA3.out ?_)
          refine ret_st w.heap.size ⟨p, l, r⟩ (.int .i64 0) rfl rfl rfl (StAt.row HA3.out) rfl ⟨by rw [HQ2.out], below_setRow HB3.out (Nat.le_refl _) _⟩
        · rw [show decide (r < 64) = false by simpa using h64]
          have HQ2 : Hid (StMath.read zs = (StMath.zero, 21)) := by rw [if_pos (by omega)] at HQ; exact HQ
          go_wp2_with (refine wpList_store_st rfl (.tmp 2) (.tmp 29) rfl w.heap.size StMath.zero StMath.zero rfl rfl HA3.out ?_)
          refine ret_st w.heap.size StMath.zero (.int .i64 21) rfl rfl rfl (StAt.row HA3.out) rfl ⟨by rw [HQ2.out], below_setRow HB3.out (Nat.le_refl _) _⟩
      · go_simp
        have HG : Hid (StAt (v0.alloc (.cells #[.int .i64 0, .int .i64 0, .int .i64 0] 23)) v0.heap.size StMath.zero) := StAt.new v0 StMath.zero rfl
        have HA1 : Hid (StAt (v0.alloc (.cells #[.int .i64 0, .int .i64 0, .int .i64 0] 23)) w.heap.size StMath.zero) := HA1.out.alloc _
        refine hK.out _ _ (hS.alloc (by omega) _) (fun hS => ?_)
        clear hK K
        generalize v0.alloc (.cells #[.int .i64 0, .int .i64 0, .int .i64 0] 23) = v1 at *
        generalize v0.heap.size = gS at *
        refine wpAnyH_ready (rs := [10]) (by kernel_rfl) (by simp) ?_
        refine AllReadyH.cons rfl (fun K hK => ?_) AllReadyH.nil
        go_simp
        refine Calls.mono (HC1.out _ hS) ?_
        rintro e w2 ⟨rfl, hw2⟩
        rw [hw2]
        clear hw2
        clear w2
        refine hK.out _ _ hS (fun hS => ?_)
        clear hK K
        refine wpAnyH_take (i := 11) (v := ?_) rfl (by kernel_rfl) (by kernel_rfl) (by kernel_rfl) (fun _ _ _ h => h) (Or.inl ⟨by rfl, ?_⟩) hS ?_
        rotate_left 1
        · intro w hSw; (try dsimp only at hSw); go_simp <;> with_reducible rfl
        simp only [List.getElem_toArray, List.getElem_cons_zero, List.getElem_cons_succ, Act.put, List.setIfInBounds_toArray, List.set_cons_zero, List.set_cons_succ]
        refine wpAnyH_take (i := 12) (v := ?_) rfl (by kernel_rfl) (by kernel_rfl) (by kernel_rfl) (fun _ _ _ h => h) (Or.inl ⟨by rfl, ?_⟩) hS ?_
        rotate_left 1
        · intro w hSw; (try dsimp only at hSw); go_simp <;> with_reducible rfl
        simp only [List.getElem_toArray, List.getElem_cons_zero, List.getElem_cons_succ, Act.put, List.setIfInBounds_toArray, List.set_cons_zero, List.set_cons_succ]
        refine wpAnyH_ready (rs := [14]) (by kernel_rfl) (by simp) ?_
        refine AllReadyH.cons rfl (fun K hK => ?_) AllReadyH.nil
        have hS0 := hS
        refine wp_store_st (.tmp 4) (.tmp 25) rfl gS StMath.zero ⟨p, l, r⟩ rfl rfl HG.out ?_
        refine hK.out _ _ (below_setRow hS (by omega) _) (fun hS => ?_)
        clear hK K hS
        refine wpAnyH_done (by kernel_rfl) ?_ _
        have HB2 : Hid (Below w.heap.size w (v1.setRow gS (stL ⟨p, l, r⟩).toArray)) := below_setRow hS0 (by omega) _
        have HA2 : Hid (StAt (v1.setRow gS (stL ⟨p, l, r⟩).toArray) w.heap.size StMath.zero) := HA1.out.row_other _ (by omega)
        have HG2 : Hid (StAt (v1.setRow gS (stL ⟨p, l, r⟩).toArray) gS ⟨p, l, r⟩) := HG.out.row
        clear HA1 HG hS0
        generalize v1.setRow gS (stL ⟨p, l, r⟩).toArray = v2 at *
        obtain ⟨d0, d1, d2⟩ := HG2.out.cells
        dsimp only at d0 d1 d2
        go_wp2_with fail
        refine Calls.mono (HRt.out _) ?_
        rintro e v3 ⟨rfl, hb3⟩
        rw [HRv.out]
        clear d0 d1 d2
        have HB3 : Hid (Below w.heap.size w v3) := HB2.out.trans (hb3.mono HB2.out.size)
        have HA3 : Hid (StAt v3 w.heap.size StMath.zero) := HA2.out.later hb3 HA2.out.lt
        have HG3 : Hid (StAt v3 gS ⟨p, l, r⟩) := HG2.out.later hb3 HG2.out.lt
        clear hb3 HA2 HG2 HB2
        by_cases h64 : r < 64
        · rw [show decide (r < 64) = true by simpa using h64]
          have HQ2 : Hid (StMath.read zs = (⟨p, l, r⟩, 0)) := by rw [if_neg (by omega)] at HQ; exact HQ
          obtain ⟨d0, d1, d2⟩ := HG3.out.cells
          dsimp only at d0 d1 d2
          go_wp2_with (refine wpList_store_st rfl (.tmp 2) (.tmp 30) rfl w.heap.size StMath.zero ⟨p, l, r⟩ rfl rfl HA3.out ?_)
          refine ret_st w.heap.size ⟨p, l, r⟩ (.int .i64 0) rfl rfl rfl (StAt.row HA3.out) rfl ⟨by rw [HQ2.out], below_setRow HB3.out (Nat.le_refl _) _⟩
        · rw [show decide (r < 64) = false by simpa using h64]
          have HQ2 : Hid (StMath.read zs = (StMath.zero, 21)) := by rw [if_pos (by omega)] at HQ; exact HQ
          go_wp2_with (refine wpList_store_st rfl (.tmp 2) (.tmp 29) rfl w.heap.size StMath.zero StMath.zero rfl rfl HA3.out ?_)
          refine ret_st w.heap.size StMath.zero (.int .i64 21) rfl rfl rfl (StAt.row HA3.out) rfl ⟨by rw [HQ2.out], below_setRow HB3.out (Nat.le_refl _) _⟩
    · go_simp
      have HG : Hid (StAt (v0.alloc (.cells #[.int .i64 0, .int .i64 0, .int .i64 0] 23)) v0.heap.size StMath.zero) := StAt.new v0 StMath.zero rfl
      have HA1 : Hid (StAt (v0.alloc (.cells #[.int .i64 0, .int .i64 0, .int .i64 0] 23)) w.heap.size StMath.zero) := HA1.out.alloc _
      refine hK.out _ _ (hS.alloc (by omega) _) (fun hS => ?_)
      clear hK K
      generalize v0.alloc (.cells #[.int .i64 0, .int .i64 0, .int .i64 0] 23) = v1 at *
      generalize v0.heap.size = gS at *
      refine wpAnyH_ready (rs := [6]) (by kernel_rfl) (by simp) ?_
      refine AllReadyH.cons rfl (fun K hK => ?_) AllReadyH.nil
      go_simp
      refine Calls.mono (HC2.out _ hS) ?_
      rintro e w2 ⟨rfl, hw2⟩
      rw [hw2]
      clear hw2
      clear w2
      refine hK.out _ _ hS (fun hS => ?_)
      clear hK K
      refine wpAnyH_take (i := 7) (v := ?_) rfl (by kernel_rfl) (by kernel_rfl) (by kernel_rfl) (fun _ _ _ h => h) (Or.inl ⟨by rfl, ?_⟩) hS ?_
      rotate_left 1
      · intro w hSw; (try dsimp only at hSw); go_simp <;> with_reducible rfl
      simp only [List.getElem_toArray, List.getElem_cons_zero, List.getElem_cons_succ, Act.put, List.setIfInBounds_toArray, List.set_cons_zero, List.set_cons_succ]
      refine wpAnyH_ready (rs := [10]) (by kernel_rfl) (by simp) ?_
      refine AllReadyH.cons rfl (fun K hK => ?_) AllReadyH.nil
      go_simp
      refine Calls.mono (HC1.out _ hS) ?_
      rintro e w2 ⟨rfl, hw2⟩
      rw [hw2]
      clear hw2
      clear w2
      refine hK.out _ _ hS (fun hS => ?_)
      clear hK K
      refine wpAnyH_take (i := 11) (v := ?_) rfl (by kernel_rfl) (by kernel_rfl) (by kernel_rfl) (fun _ _ _ h => h) (Or.inl ⟨by rfl, ?_⟩) hS ?_
      rotate_left 1
      · intro w hSw; (try dsimp only at hSw); go_simp <;> with_reducible rfl
      simp only [List.getElem_toArray, List.getElem_cons_zero, List.getElem_cons_succ, Act.put, List.setIfInBounds_toArray, List.set_cons_zero, List.set_cons_succ]
      refine wpAnyH_take (i := 12) (v := ?_) rfl (by kernel_rfl) (by kernel_rfl) (by kernel_rfl) (fun _ _ _ h => h) (Or.inl ⟨by rfl, ?_⟩) hS ?_
      rotate_left 1
      · intro w hSw; (try dsimp only at hSw); go_simp <;> with_reducible rfl
      simp only [List.getElem_toArray, List.getElem_cons_zero, List.getElem_cons_succ, Act.put, List.setIfInBounds_toArray, List.set_cons_zero, List.set_cons_succ]
      refine wpAnyH_ready (rs := [14]) (by kernel_rfl) (by simp) ?_
      refine AllReadyH.cons rfl (fun K hK => ?_) AllReadyH.nil
      have hS0 := hS
      refine wp_store_st (.tmp 4) (.tmp 25) rfl gS StMath.zero ⟨p, l, r⟩ rfl rfl HG.out ?_
      refine hK.out _ _ (below_setRow hS (by omega) _) (fun hS => ?_)
      clear hK K hS
      refine wpAnyH_done (by kernel_rfl) ?_ _
      have HB2 : Hid (Below w.heap.size w (v1.setRow gS (stL ⟨p, l, r⟩).toArray)) := below_setRow hS0 (by omega) _
      have HA2 : Hid (StAt (v1.setRow gS (stL ⟨p, l, r⟩).toArray) w.heap.size StMath.zero) := HA1.out.row_other _ (by omega)
      have HG2 : Hid (StAt (v1.setRow gS (stL ⟨p, l, r⟩).toArray) gS ⟨p, l, r⟩) := HG.out.row
      clear HA1 HG hS0
      generalize v1.setRow gS (stL ⟨p, l, r⟩).toArray = v2 at *
      obtain ⟨d0, d1, d2⟩ := HG2.out.cells
      dsimp only at d0 d1 d2
      go_wp2_with fail
      refine Calls.mono (HRt.out _) ?_
      rintro e v3 ⟨rfl, hb3⟩
      rw [HRv.out]
      clear d0 d1 d2
      have HB3 : Hid (Below w.heap.size w v3) := HB2.out.trans (hb3.mono HB2.out.size)
      have HA3 : Hid (StAt v3 w.heap.size StMath.zero) := HA2.out.later hb3 HA2.out.lt
      have HG3 : Hid (StAt v3 gS ⟨p, l, r⟩) := HG2.out.later hb3 HG2.out.lt
      clear hb3 HA2 HG2 HB2
      by_cases h64 : r < 64
      · rw [show decide (r < 64) = true by simpa using h64]
        have HQ2 : Hid (StMath.read zs = (⟨p, l, r⟩, 0)) := by rw [if_neg (by omega)] at HQ; exact HQ
        obtain ⟨d0, d1, d2⟩ := HG3.out.cells
        dsimp only at d0 d1 d2
        go_wp2_with (refine wpList_store_st rfl (.tmp 2) (.tmp 30) rfl w.heap.size StMath.zero ⟨p, l, r⟩ rfl rfl HA3.out ?_)
        refine ret_st w.heap.size ⟨p, l, r⟩ (.int .i64 0) rfl rfl rfl (StAt.row HA3.out) rfl ⟨by rw [HQ2.out], below_setRow HB3.out (Nat.le_refl _) _⟩
      · rw [show decide (r < 64) = false by simpa using h64]
        have HQ2 : Hid (StMath.read zs = (StMath.zero, 21)) := by rw [if_pos (by omega)] at HQ; exact HQ
        go_wp2_with (refine wpList_store_st rfl (.tmp 2) (.tmp 29) rfl w.heap.size StMath.zero StMath.zero rfl rfl HA3.out ?_)
        refine ret_st w.heap.size StMath.zero (.int .i64 21) rfl rfl rfl (StAt.row HA3.out) rfl ⟨by rw [HQ2.out], below_setRow HB3.out (Nat.le_refl _) _⟩
  · go_simp
    have HG : Hid (StAt (v0.alloc (.cells #[.int .i64 0, .int .i64 0, .int .i64 0] 23)) v0.heap.size StMath.zero) := StAt.new v0 StMath.zero rfl
    have HA1 : Hid (StAt (v0.alloc (.cells #[.int .i64 0, .int .i64 0, .int .i64 0] 23)) w.heap.size StMath.zero) := HA1.out.alloc _
    refine hK.out _ _ (hS.alloc (by omega) _) (fun hS => ?_)
    clear hK K
    generalize v0.alloc (.cells #[.int .i64 0, .int .i64 0, .int .i64 0] 23) = v1 at *
    generalize v0.heap.size = gS at *
    refine wpAnyH_ready (rs := [2]) (by kernel_rfl) (by simp) ?_
    refine AllReadyH.cons rfl (fun K hK => ?_) AllReadyH.nil
    go_simp
    refine Calls.mono (HC6.out _ hS) ?_
    rintro e w2 ⟨rfl, hw2⟩
    rw [hw2]
    clear hw2
    clear w2
    refine hK.out _ _ hS (fun hS => ?_)
    clear hK K
    refine wpAnyH_take (i := 3) (v := ?_) rfl (by kernel_rfl) (by kernel_rfl) (by kernel_rfl) (fun _ _ _ h => h) (Or.inl ⟨by rfl, ?_⟩) hS ?_
    rotate_left 1
    · intro w hSw; (try dsimp only at hSw); go_simp <;> with_reducible rfl
    simp only [List.getElem_toArray, List.getElem_cons_zero, List.getElem_cons_succ, Act.put, List.setIfInBounds_toArray, List.set_cons_zero, List.set_cons_succ]
    refine wpAnyH_ready (rs := [6]) (by kernel_rfl) (by simp) ?_
    refine AllReadyH.cons rfl (fun K hK => ?_) AllReadyH.nil
    go_simp
    refine Calls.mono (HC2.out _ hS) ?_
    rintro e w2 ⟨rfl, hw2⟩
    rw [hw2]
    clear hw2
    clear w2
    refine hK.out _ _ hS (fun hS => ?_)
    clear hK K
    refine wpAnyH_take (i := 7) (v := ?_) rfl (by kernel_rfl) (by kernel_rfl) (by kernel_rfl) (fun _ _ _ h => h) (Or.inl ⟨by rfl, ?_⟩) hS ?_
    rotate_left 1
    · intro w hSw; (try dsimp only at hSw); go_simp <;> with_reducible rfl
    simp only [List.getElem_toArray, List.getElem_cons_zero, List.getElem_cons_succ, Act.put, List.setIfInBounds_toArray, List.set_cons_zero, List.set_cons_succ]
    refine wpAnyH_ready (rs := [10]) (by kernel_rfl) (by simp) ?_
    refine AllReadyH.cons rfl (fun K hK => ?_) AllReadyH.nil
    go_simp
    refine Calls.mono (HC1.out _ hS) ?_
    rintro e w2 ⟨rfl, hw2⟩
    rw [hw2]
    clear hw2
    clear w2
    refine hK.out _ _ hS (fun hS => ?_)
    clear hK K
    refine wpAnyH_take (i := 11) (v := ?_) rfl (by kernel_rfl) (by kernel_rfl) (by kernel_rfl) (fun _ _ _ h => h) (Or.inl ⟨by rfl, ?_⟩) hS ?_
    rotate_left 1
    · intro w hSw; (try dsimp only at hSw); go_simp <;> with_reducible rfl
    simp only [List.getElem_toArray, List.getElem_cons_zero, List.getElem_cons_succ, Act.put, List.setIfInBounds_toArray, List.set_cons_zero, List.set_cons_succ]
    refine wpAnyH_take (i := 12) (v := ?_) rfl (by kernel_rfl) (by kernel_rfl) (by kernel_rfl) (fun _ _ _ h => h) (Or.inl ⟨by rfl, ?_⟩) hS ?_
    rotate_left 1
    · intro w hSw; (try dsimp only at hSw); go_simp <;> with_reducible rfl
    simp only [List.getElem_toArray, List.getElem_cons_zero, List.getElem_cons_succ, Act.put, List.setIfInBounds_toArray, List.set_cons_zero, List.set_cons_succ]
    refine wpAnyH_ready (rs := [14]) (by kernel_rfl) (by simp) ?_
    refine AllReadyH.cons rfl (fun K hK => ?_) AllReadyH.nil
    have hS0 := hS
    refine wp_store_st (.tmp 4) (.tmp 25) rfl gS StMath.zero ⟨p, l, r⟩ rfl rfl HG.out ?_
    refine hK.out _ _ (below_setRow hS (by omega) _) (fun hS => ?_)
    clear hK K hS
    refine wpAnyH_done (by kernel_rfl) ?_ _
    have HB2 : Hid (Below w.heap.size w (v1.setRow gS (stL ⟨p, l, r⟩).toArray)) := below_setRow hS0 (by omega) _
    have HA2 : Hid (StAt (v1.setRow gS (stL ⟨p, l, r⟩).toArray) w.heap.size StMath.zero) := HA1.out.row_other _ (by omega)
    have HG2 : Hid (StAt (v1.setRow gS (stL ⟨p, l, r⟩).toArray) gS ⟨p, l, r⟩) := HG.out.row
    clear HA1 HG hS0
    generalize v1.setRow gS (stL ⟨p, l, r⟩).toArray = v2 at *
    obtain ⟨d0, d1, d2⟩ := HG2.out.cells
    dsimp only at d0 d1 d2
    go_wp2_with fail
    refine Calls.mono (HRt.out _) ?_
    rintro e v3 ⟨rfl, hb3⟩
    rw [HRv.out]
    clear d0 d1 d2
    have HB3 : Hid (Below w.heap.size w v3) := HB2.out.trans (hb3.mono HB2.out.size)
    have HA3 : Hid (StAt v3 w.heap.size StMath.zero) := HA2.out.later hb3 HA2.out.lt
    have HG3 : Hid (StAt v3 gS ⟨p, l, r⟩) := HG2.out.later hb3 HG2.out.lt
    clear hb3 HA2 HG2 HB2
    by_cases h64 : r < 64
    · rw [show decide (r < 64) = true by simpa using h64]
      have HQ2 : Hid (StMath.read zs = (⟨p, l, r⟩, 0)) := by rw [if_neg (by omega)] at HQ; exact HQ
      obtain ⟨d0, d1, d2⟩ := HG3.out.cells
      dsimp only at d0 d1 d2
      go_wp2_with (refine wpList_store_st rfl (.tmp 2) (.tmp 30) rfl w.heap.size StMath.zero ⟨p, l, r⟩ rfl rfl HA3.out ?_)
      refine ret_st w.heap.size ⟨p, l, r⟩ (.int .i64 0) rfl rfl rfl (StAt.row HA3.out) rfl ⟨by rw [HQ2.out], below_setRow HB3.out (Nat.le_refl _) _⟩
    · rw [show decide (r < 64) = false by simpa using h64]
      have HQ2 : Hid (StMath.read zs = (StMath.zero, 21)) := by rw [if_pos (by omega)] at HQ; exact HQ
      go_wp2_with (refine wpList_store_st rfl (.tmp 2) (.tmp 29) rfl w.heap.size StMath.zero StMath.zero rfl rfl HA3.out ?_)
      refine ret_st w.heap.size StMath.zero (.int .i64 21) rfl rfl rfl (StAt.row HA3.out) rfl ⟨by rw [HQ2.out], below_setRow HB3.out (Nat.le_refl _) _⟩
end Go.Proofs.Ytcgnkembfpcnnaa

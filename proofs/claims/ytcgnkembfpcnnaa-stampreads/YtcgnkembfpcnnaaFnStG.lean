/-
  Walk of newsreelref1.StampRead.
-/
import Derived.Test.YtcgnkembfpcnnaaFnStE
namespace Go.Proofs.Ytcgnkembfpcnnaa
open Go.RowKit NumMath
open StMath (St cmpI or3)
set_option maxRecDepth 100000
set_option linter.unusedVariables false
set_option linter.unusedSimpArgs false

set_option maxRecDepth 100000 in
set_option maxHeartbeats 8000000 in
theorem refRead_any (a : Option Addr) (zs : List Int) (cap : Nat) (w : World) (hr : Row .u8 w a zs) (hb : ∀ c ∈ zs, 0 ≤ c ∧ c ≤ 255) (hc : zs.length ≤ cap) (hm : cap ≤ maxLen) :
    Calls Try.prog 15 #[.slice a zs.length cap] w fun e w' => e = .returned (.tuple #[stV (StMath.read zs).1, .int .i64 (StMath.read zs).2]) ∧ Below w.heap.size w w' := by
  unfold maxLen at hm
  have HA0 : Hid (StAt (w.alloc (.cells #[.int .i64 0, .int .i64 0, .int .i64 0] 23)) w.heap.size StMath.zero) := StAt.new w StMath.zero rfl
  have HB0 : Hid (Below w.heap.size w (w.alloc (.cells #[.int .i64 0, .int .i64 0, .int .i64 0] 23))) := (Below.refl _ _).alloc (Nat.le_refl _) _
  have HR0 : Hid (Row .u8 (w.alloc (.cells #[.int .i64 0, .int .i64 0, .int .i64 0] 23)) a zs) := hr.later HB0.out
  by_cases h1 : zs.length < 9
  · have HQ : Hid (StMath.read zs = (StMath.zero, 20)) := by unfold Hid StMath.read; rw [if_pos h1]
    obtain ⟨n, hn⟩ : ∃ n, n = zs.length := ⟨_, rfl⟩
    rw [← hn] at hc h1 ⊢
    clear hn
    go_enter Try.func15, Try.ntmps15
    go_wp2_with (refine wpList_store_st rfl (.tmp 2) (.tmp 7) rfl w.heap.size StMath.zero StMath.zero rfl rfl HA0.out ?_)
    refine ret_st w.heap.size StMath.zero (.int .i64 20) rfl rfl rfl (StAt.row HA0.out) rfl ⟨by rw [HQ.out], below_setRow HB0.out (Nat.le_refl _) _⟩
  by_cases h2 : 9 < zs.length
  · have HQ : Hid (StMath.read zs = (StMath.zero, 21)) := by unfold Hid StMath.read; rw [if_neg h1, if_pos h2]
    obtain ⟨n, hn⟩ : ∃ n, n = zs.length := ⟨_, rfl⟩
    rw [← hn] at hc h1 h2 ⊢
    clear hn
    go_enter Try.func15, Try.ntmps15
    go_wp2_with (refine wpList_store_st rfl (.tmp 2) (.tmp 17) rfl w.heap.size StMath.zero StMath.zero rfl rfl HA0.out ?_)
    refine ret_st w.heap.size StMath.zero (.int .i64 21) rfl rfl rfl (StAt.row HA0.out) rfl ⟨by rw [HQ.out], below_setRow HB0.out (Nat.le_refl _) _⟩
  have hl : zs.length = 9 := by omega
  have hy := hb _ (mem_getD zs 8 (by omega))
  have b6 := bigL_bd (zs.take 6) (fun c hc => hb c (List.mem_of_mem_take hc))
  have b2 := bigL_bd ((zs.drop 6).take 2) (fun c hc => hb c (List.mem_of_mem_drop (List.mem_of_mem_take hc)))
  have l6 : (zs.take 6).length = 6 := by simp; omega
  have l2 : ((zs.drop 6).take 2).length = 2 := by simp; omega
  rw [l6, show (256 : Int) ^ 6 = 281474976710656 by decide] at b6
  rw [l2, show (256 : Int) ^ 2 = 65536 by decide] at b2
  obtain ⟨b, off, rfl, hcell⟩ : ∃ b off, a = some ⟨b, off, none⟩ ∧ ∀ i, i < zs.length → w.cell? ⟨b, off + i, none⟩ = some (.int .u8 (zs[i]?.getD 0)) := by
    rcases hr with h | h
    · rw [h] at hl; simp at hl
    · exact h
  have HQ : Hid (StMath.read zs = if (64 : Int) ≤ zs[8]?.getD 0 then (StMath.zero, 21) else (⟨bigL (zs.take 6), bigL ((zs.drop 6).take 2), zs[8]?.getD 0⟩, 0)) := by unfold Hid StMath.read; rw [if_neg h1, if_neg h2]
  have HC6 : Hid (∀ w', Below w.heap.size w w' → _) := fun w' (hB : Below w.heap.size w w') => refBig_at (some ⟨b, off, none⟩) (zs.take 6) 6 cap (bigL (zs.take 6)) w' (Row.later (Row.take hr 6) hB) l6 (by rw [List.take_of_length_le (by omega)]) (fun c hc => hb c (List.mem_of_mem_take hc)) (by omega) (by unfold maxLen; omega)
  have HC2 : Hid (∀ w', Below w.heap.size w w' → _) := fun w' (hB : Below w.heap.size w w') => refBig_at (some ⟨b, off + 6, none⟩) ((zs.drop 6).take 2) 2 (cap - 6) (bigL ((zs.drop 6).take 2)) w' (Row.later (Row.take (row_drop hcell 6) 2) hB) l2 (by rw [List.take_of_length_le (by omega)]) (fun c hc => hb c (List.mem_of_mem_drop (List.mem_of_mem_take hc))) (by omega) (by unfold maxLen; omega)
  have c8 : (w.alloc (.cells #[.int .i64 0, .int .i64 0, .int .i64 0] 23)).cell? ⟨b, off + 8, none⟩ = some (.int .u8 (zs[8]?.getD 0)) := cell_later (hcell 8 (by omega)) HB0.out
  have HC8 : Hid (w.cell? ⟨b, off + 8, none⟩ = some (.int .u8 (zs[8]?.getD 0))) := hcell 8 (by omega)
  clear hcell hr HR0
  generalize bigL (zs.take 6) = p at *
  generalize bigL ((zs.drop 6).take 2) = l at *
  have h9 : 9 ≤ cap := by omega
  rw [hl]
  generalize zs[8]?.getD 0 = r at *
  have i6 : (6 : Int) ≤ (cap : Int) := by omega
  have i8 : (8 : Int) ≤ (cap : Int) := by omega
  have i9 : (9 : Int) ≤ (cap : Int) := by omega
  have k0 : IntKind.i64.wrap p = p := i64_wrap b6.1 (by omega)
  have k1 : IntKind.i64.wrap l = l := i64_wrap b2.1 (by omega)
  have k2 : IntKind.i64.wrap r = r := i64_wrap hy.1 (by omega)
  have HL : Hid (zs.length = 9) := hl
  clear l6 l2 hl h1 h2 hc hb
  obtain ⟨h90, h91⟩ : ¬ cap = 6 ∧ ¬ cap = 8 := by omega
  by_cases h64 : (64 : Int) ≤ r
  · have HQ2 : Hid (StMath.read zs = (StMath.zero, 21)) := by rw [if_pos h64] at HQ; exact HQ
    go_enter Try.func15, Try.ntmps15
    go_wp2_with (refine wpList_store_st rfl (.tmp 2) (.tmp 17) rfl w.heap.size StMath.zero StMath.zero rfl rfl HA0.out ?_)
    refine ret_st w.heap.size StMath.zero (.int .i64 21) rfl rfl rfl (StAt.row HA0.out) rfl ⟨by rw [HQ2.out], below_setRow HB0.out (Nat.le_refl _) _⟩
  have HQ2 : Hid (StMath.read zs = (⟨p, l, r⟩, 0)) := by rw [if_neg h64] at HQ; exact HQ
  have hd64 : decide ((64 : Int) ≤ r) = false := by simpa using h64
  go_enter Try.func15, Try.ntmps15
  go_wp2
  have HA1 : Hid (StAt (w.alloc (.cells #[.int .i64 0, .int .i64 0, .int .i64 0] 23)).drew w.heap.size StMath.zero) := HA0.out.drew
  have HB1 : Hid (Below w.heap.size w (w.alloc (.cells #[.int .i64 0, .int .i64 0, .int .i64 0] 23)).drew) := HB0.out.drew
  have c8d : (w.alloc (.cells #[.int .i64 0, .int .i64 0, .int .i64 0] 23)).drew.cell? ⟨b, off + 8, none⟩ = some (.int .u8 r) := c8
  refine wp_region_held_drew (S := fun w' => Below w.heap.size w w' ∧ w'.cell? ⟨b, off + 8, none⟩ = some (.int .u8 r)) (by kernel_rfl) ⟨HB1.out, c8d⟩ (fun hS => ?_)
  refine wpAnyH_take (i := 0) (v := ?_) rfl (by kernel_rfl) (by kernel_rfl) (by kernel_rfl) (fun _ _ _ h => h) (Or.inl ⟨by rfl, ?_⟩) hS ?_
  rotate_left 1
  · intro w hSw; (try dsimp only at hSw); go_simp <;> with_reducible rfl
  simp only [List.getElem_toArray, List.getElem_cons_zero, List.getElem_cons_succ, Act.put, List.setIfInBounds_toArray, List.set_cons_zero, List.set_cons_succ]
  refine wpAnyH_take (i := 1) (v := ?_) rfl (by kernel_rfl) (by kernel_rfl) (by kernel_rfl) (fun _ _ _ h => h) (Or.inl ⟨by rfl, ?_⟩) hS ?_
  rotate_left 1
  · intro w hSw; (try dsimp only at hSw); go_simp <;> with_reducible rfl
  simp only [List.getElem_toArray, List.getElem_cons_zero, List.getElem_cons_succ, Act.put, List.setIfInBounds_toArray, List.set_cons_zero, List.set_cons_succ]
  refine wpAnyH_take (i := 4) (v := ?_) rfl (by kernel_rfl) (by kernel_rfl) (by kernel_rfl) (fun _ _ _ h => h) (Or.inl ⟨by rfl, ?_⟩) hS ?_
  rotate_left 1
  · intro w hSw; (try dsimp only at hSw); go_simp <;> with_reducible rfl
  simp only [List.getElem_toArray, List.getElem_cons_zero, List.getElem_cons_succ, Act.put, List.setIfInBounds_toArray, List.set_cons_zero, List.set_cons_succ]
  refine wpAnyH_take (i := 5) (v := ?_) rfl (by kernel_rfl) (by kernel_rfl) (by kernel_rfl) (fun _ _ _ h => h) (Or.inl ⟨by rfl, ?_⟩) hS ?_
  rotate_left 1
  · intro w hSw; (try dsimp only at hSw); go_simp <;> with_reducible rfl
  simp only [List.getElem_toArray, List.getElem_cons_zero, List.getElem_cons_succ, Act.put, List.setIfInBounds_toArray, List.set_cons_zero, List.set_cons_succ]
  refine wpAnyH_take (i := 8) (v := ?_) rfl (by kernel_rfl) (by kernel_rfl) (by kernel_rfl) (fun _ _ _ h => h) (Or.inl ⟨by rfl, ?_⟩) hS ?_
  rotate_left 1
  · intro w hSw; (try dsimp only at hSw); go_simp <;> with_reducible rfl
  simp only [List.getElem_toArray, List.getElem_cons_zero, List.getElem_cons_succ, Act.put, List.setIfInBounds_toArray, List.set_cons_zero, List.set_cons_succ]
  refine wpAnyH_take (i := 9) (v := ?_) rfl (by kernel_rfl) (by kernel_rfl) (by kernel_rfl) (fun _ _ _ h => h) (Or.inl ⟨by rfl, ?_⟩) hS ?_
  rotate_left 1
  · intro w hSw; (try dsimp only at hSw); go_simp <;> with_reducible rfl
  simp only [List.getElem_toArray, List.getElem_cons_zero, List.getElem_cons_succ, Act.put, List.setIfInBounds_toArray, List.set_cons_zero, List.set_cons_succ]
  refine wpAnyH_take (i := 10) (v := ?_) rfl (by kernel_rfl) (by kernel_rfl) (by kernel_rfl) (fun _ _ _ h => h) (Or.inl ⟨by rfl, ?_⟩) hS ?_
  rotate_left 1
  · intro w hSw; (try dsimp only at hSw); go_simp <;> with_reducible rfl
  simp only [List.getElem_toArray, List.getElem_cons_zero, List.getElem_cons_succ, Act.put, List.setIfInBounds_toArray, List.set_cons_zero, List.set_cons_succ]
  refine wpAnyH_take (i := 11) (v := ?_) rfl (by kernel_rfl) (by kernel_rfl) (by kernel_rfl) (fun _ _ _ h => h) (Or.inl ⟨by rfl, ?_⟩) hS ?_
  rotate_left 1
  · intro w hSw; (try dsimp only at hSw); go_simp <;> with_reducible rfl
  simp only [List.getElem_toArray, List.getElem_cons_zero, List.getElem_cons_succ, Act.put, List.setIfInBounds_toArray, List.set_cons_zero, List.set_cons_succ]
  generalize (w.alloc (.cells #[.int .i64 0, .int .i64 0, .int .i64 0] 23)).drew = v0 at *
  clear HA0 HB0 c8 c8d
  refine wpAnyH_ready (rs := [2]) (by kernel_rfl) (by simp) ?_
  refine AllReadyH.cons rfl (fun K hK => ?_) AllReadyH.nil
  go_simp
  refine Calls.mono (HC6.out _ hS.1) ?_
  rintro e w2 ⟨rfl, hw2⟩
  rw [hw2]
  clear hw2
  clear w2
  refine hK.out _ _ hS (fun hS => ?_)
  clear hK K
  refine wpAnyH_take (i := 3) (v := ?_) rfl (by kernel_rfl) (by kernel_rfl) (by kernel_rfl) (fun _ _ _ h => h) (Or.inl ⟨by rfl, ?_⟩) hS ?_
  rotate_left 1
  · intro w hSw; (try dsimp only at hSw); go_simp <;> with_reducible rfl
  simp only [List.getElem_toArray, List.getElem_cons_zero, List.getElem_cons_succ, Act.put, List.setIfInBounds_toArray, List.set_cons_zero, List.set_cons_succ]
  refine wpAnyH_ready (rs := [6]) (by kernel_rfl) (by simp) ?_
  refine AllReadyH.cons rfl (fun K hK => ?_) AllReadyH.nil
  go_simp
  refine Calls.mono (HC2.out _ hS.1) ?_
  rintro e w2 ⟨rfl, hw2⟩
  rw [hw2]
  clear hw2
  clear w2
  refine hK.out _ _ hS (fun hS => ?_)
  clear hK K
  refine wpAnyH_take (i := 7) (v := ?_) rfl (by kernel_rfl) (by kernel_rfl) (by kernel_rfl) (fun _ _ _ h => h) (Or.inl ⟨by rfl, ?_⟩) hS ?_
  rotate_left 1
  · intro w hSw; (try dsimp only at hSw); go_simp <;> with_reducible rfl
  simp only [List.getElem_toArray, List.getElem_cons_zero, List.getElem_cons_succ, Act.put, List.setIfInBounds_toArray, List.set_cons_zero, List.set_cons_succ]
  refine wpAnyH_take (i := 12) (v := ?_) rfl (by kernel_rfl) (by kernel_rfl) (by kernel_rfl) (fun _ _ _ h => h) (Or.inl ⟨by rfl, ?_⟩) hS ?_
  rotate_left 1
  · intro w hSw; (try dsimp only at hSw); go_simp <;> with_reducible rfl
  simp only [List.getElem_toArray, List.getElem_cons_zero, List.getElem_cons_succ, Act.put, List.setIfInBounds_toArray, List.set_cons_zero, List.set_cons_succ]
  refine wpAnyH_ready (rs := [13]) (by kernel_rfl) (by simp) ?_
  refine AllReadyH.cons rfl (fun K hK => ?_) AllReadyH.nil
  refine wp_store_st (.tmp 2) (.tmp 30) rfl w.heap.size StMath.zero ⟨p, l, r⟩ rfl rfl HA1.out ?_
  have HB2 : Hid (Below w.heap.size w (v0.setRow w.heap.size (stL ⟨p, l, r⟩).toArray)) := below_setRow HB1.out (Nat.le_refl _) _
  refine hK.out _ _ ⟨HB2.out, ?_⟩ (fun hS => ?_)
  · exact cell_later HC8.out HB2.out
  clear hK K
  refine wpAnyH_take (i := 14) (v := ?_) rfl (by kernel_rfl) (by kernel_rfl) (by kernel_rfl) (fun _ _ _ h => h) (Or.inl ⟨by rfl, ?_⟩) hS ?_
  rotate_left 1
  · intro w hSw; (try dsimp only at hSw); go_simp <;> with_reducible rfl
  simp only [List.getElem_toArray, List.getElem_cons_zero, List.getElem_cons_succ, Act.put, List.setIfInBounds_toArray, List.set_cons_zero, List.set_cons_succ]
  refine wpAnyH_done (by kernel_rfl) ?_ _
  go_wp2
  refine ret_st w.heap.size ⟨p, l, r⟩ (.int .i64 0) rfl rfl rfl (StAt.row HA1.out) rfl ⟨by rw [HQ2.out], HB2.out⟩
end Go.Proofs.Ytcgnkembfpcnnaa

/-
  Walk of newsreellaw9.DotSorts.
-/
import Derived.Test.YtehaeepihjookaaL9ListsM
import Derived.Deep.CutRange
namespace Go.Proofs.Ytehaeepihjookaa
open Go.RowKit NumMath
open DotMath (Dt)
set_option maxRecDepth 100000
set_option linter.unusedVariables false
set_option linter.unusedSimpArgs false

theorem sort_dots {w : World} {v : Value} {ds : List Dt} (h : Dots w v ds) (hl : ds.length ≤ 1000000) : Calls Try.prog 13 #[v] w fun e w' => ∃ v', e = .returned v' ∧ Dots w' v' (DotMath.sort ds) ∧ Below w.heap.size w w' := by
  obtain ⟨ao, c, rfl, hr, hc, hm, hn⟩ := h
  exact dotSort_any ao ds c w hr hc hm hn hl
theorem ref_sort_dots {w : World} {v : Value} {ds : List Dt} (h : Dots w v ds) (hl : ds.length ≤ 1000000) : Calls Try.prog 15 #[v] w fun e w' => ∃ v', e = .returned v' ∧ Dots w' v' (DotMath.sort ds) ∧ Below w.heap.size w w' := by
  obtain ⟨ao, c, rfl, hr, hc, hm, hn⟩ := h
  exact (refDotSort_any ao ds c w hr hc hm (by omega)).mono fun _ _ ⟨v, he, ho, hb⟩ => ⟨v, he, ho.dots, hb⟩
theorem same_dots {w : World} {v1 v2 : Value} {ds : List Dt} (h1 : Dots w v1 ds) (h2 : Dots w v2 ds) : Calls Try.prog 14 #[v1, v2] w fun e w' => e = .returned (.bool true) ∧ Below w.heap.size w w' := by
  obtain ⟨a1, c1, rfl, hr1, hc1, hm1, _⟩ := h1
  obtain ⟨a2, c2, rfl, hr2, hc2, hm2, _⟩ := h2
  exact sameDots_any a1 a2 c1 c2 ds w hr1 hr2 hc1 hc2 hm1 hm2
/-- The turned list. -/
def turn (acc : List Dt) (kk m : Nat) : List Dt := (List.range m).map (fun t => acc[acc.length - 1 - (t + kk) % acc.length]?.getD DotMath.zero)
theorem turn_succ (acc : List Dt) (kk m : Nat) : turn acc kk (m + 1) = turn acc kk m ++ [acc[acc.length - 1 - (m + kk) % acc.length]?.getD DotMath.zero] := by
  unfold turn; rw [List.range_succ, List.map_append]; rfl
theorem turn_len (acc : List Dt) (kk m : Nat) : (turn acc kk m).length = m := by simp [turn]
theorem turn_mem (acc : List Dt) (kk : Nat) (x : Dt) : x ∈ turn acc kk acc.length ↔ x ∈ acc := by
  unfold turn
  rw [List.mem_map]
  constructor
  · rintro ⟨t, ht, rfl⟩
    have ht' : t < acc.length := by simpa using ht
    have hr : (t + kk) % acc.length < acc.length := Nat.mod_lt _ (by omega)
    have hj : acc.length - 1 - (t + kk) % acc.length < acc.length := by omega
    rw [List.getElem?_eq_getElem hj]
    exact List.getElem_mem hj
  · intro hx
    obtain ⟨j, hj, rfl⟩ := List.getElem_of_mem hx
    have hk : kk % acc.length < acc.length := Nat.mod_lt _ (by omega)
    refine ⟨(acc.length - 1 - j + (acc.length - kk % acc.length)) % acc.length, by simpa using Nat.mod_lt _ (by omega), ?_⟩
    have e : ((acc.length - 1 - j + (acc.length - kk % acc.length)) % acc.length + kk) % acc.length = acc.length - 1 - j := by
      rw [Nat.mod_add_mod]
      have h1 := Nat.div_add_mod kk acc.length
      have h2 : acc.length - 1 - j + (acc.length - kk % acc.length) + kk = acc.length - 1 - j + acc.length * (kk / acc.length + 1) := by
        rw [Nat.mul_add, Nat.mul_one]
        generalize acc.length * (kk / acc.length) = t at *
        generalize kk % acc.length = b at *
        omega
      rw [h2, Nat.add_mul_mod_self_left]
      exact Nat.mod_eq_of_lt (by omega)
    rw [e, show acc.length - 1 - (acc.length - 1 - j) = j by omega]
    simp [hj]

set_option maxHeartbeats 64000000 in
theorem dotSorts_walk (a0 : Option Addr) (ds : List Dt) (cap0 : Nat) (a1 : Option Addr) (xs1 : List Int) (cap1 : Nat) (n2 : Int) (W : World)
    (hr0 : DRow W a0 ds) (hc0 : ds.length ≤ cap0) (hm0 : cap0 ≤ maxLen) (hf0 : (∀ s ∈ ds, DotMath.Fit s) ∧ (a0 = none → cap0 = 0))
    (hr1 : Row .u16 W a1 xs1) (hc1 : xs1.length ≤ cap1) (hm1 : cap1 ≤ maxLen) (hn1 : a1 = none → cap1 = 0) (hw1 : ∀ n ∈ xs1, (Lit.int .u16 n).wf = true) (hs1 : cap1 * 2 ≤ 140737488351232)
    (w2 : (Lit.int .u8 n2).wf = true) :
    Calls Try.prog 4 #[.slice a0 ds.length cap0, .slice a1 xs1.length cap1, .int .u8 n2] W fun r W' => r = .returned (.bool true) ∧ Below W.heap.size W W' := by
  have hb2 := bounds_u8 w2
  obtain ⟨kk, rfl⟩ : ∃ kk : Nat, n2 = (kk : Int) := ⟨n2.toNat, by omega⟩
  have hkk : kk ≤ 255 := by omega
  have hxb : ∀ c ∈ xs1, 0 ≤ c ∧ c ≤ 65535 := fun c hc => bounds_u16 (hw1 c hc)
  have HKn : Hid (∀ w, _) := fun w => known_any w
  have HD0 : Hid (∀ w, Below W.heap.size W w → Dots w (.slice a0 ds.length cap0) ds) := fun w hB => ⟨a0, cap0, rfl, hr0.later hB, hc0, hm0, hf0.2⟩
  have HX : Hid (∀ k, k < xs1.length → ∀ w, Below W.heap.size W w → ∃ b off, a1 = some ⟨b, off, none⟩ ∧ ∃ c : Int, 0 ≤ c ∧ c ≤ 65535 ∧ w.cell? ⟨b, off + k, none⟩ = some (.int .u16 c)) := fun k hk w hB => by
    rcases hr1.later hB with h | ⟨b, off, ha, hc⟩
    · rw [h] at hk; simp at hk
    · have := hxb _ (mem_getD xs1 k hk)
      exact ⟨b, off, ha, _, this.1, this.2, hc k hk⟩
  obtain ⟨n0, hn0⟩ : ∃ L, L = ds.length := ⟨_, rfl⟩
  obtain ⟨n, hn⟩ : ∃ n, n = xs1.length := ⟨_, rfl⟩
  rw [← hn0] at HD0 ⊢
  rw [← hn] at hc1 HX ⊢
  have HN0 : Hid (ds.length = n0) := hn0.symm
  unfold maxLen at hm1
  clear hr0 hc0 hm0 hf0 hr1 hn1 hw1 hs1 hxb hn0 hn w2 hb2
  go_enter Try.func4, Try.ntmps4
  go_wp2_with fail
  refine Calls.mono (HKn.out _) ?_
  rintro r w1 ⟨rfl, hb1⟩
  have HB1 : Hid (Below W.heap.size W w1) := hb1
  clear hb1 HKn
  by_cases hbig0 : 100 < n0
  · have hb0 : decide ((100 : Int) < (n0 : Int)) = true := by simp; omega
    go_wp2
    go_ret
    exact ⟨rfl, HB1.out⟩
  have hb0 : decide ((100 : Int) < (n0 : Int)) = false := by simp; omega
  by_cases hbig : 100 < n
  · have hbi : decide ((100 : Int) < (n : Int)) = true := by simp; omega
    go_wp2
    go_ret
    exact ⟨rfl, HB1.out⟩
  have hbi : decide ((100 : Int) < (n : Int)) = false := by simp; omega
  go_wp2
  go_loopw [0, 7] (fun v i wr => ∃ (k : Nat) (acc : List Dt), k ≤ n ∧ i = .int .i64 k ∧ Dots wr v acc ∧ acc.length = n0 + k ∧ Below W.heap.size W wr) (fun _ i _ => n - (intOf i).toNat)
  case atStart => exact ⟨0, ds, by omega, rfl, HD0.out _ HB1.out, HN0.out, HB1.out⟩
  case round =>
    obtain ⟨k, acc, hk, rfl, hD, hacc, hB⟩ := hrel
    obtain ⟨ao, ca, rfl, hrow, hac, hcm, hnil⟩ := hD
    obtain ⟨N, hN⟩ : ∃ N, N = acc.length := ⟨_, rfl⟩
    rw [← hN] at hac hacc ⊢
    have HN : Hid (N = acc.length) := hN
    have HAcc : Hid (N = n0 + k) := hacc
    clear hacc
    by_cases hkn : k < n
    · have hki : (k : Int) < (n : Int) := by omega
      have hkc : (k : Int) < (cap1 : Int) := by omega
      obtain ⟨at1, at2, hk1, _, hra, _, hna, _⟩ := cuts_of hrow hN hac hnil (Nat.le_refl N)
      rw [List.take_of_length_le (by omega)] at hra
      have HR : Hid (DRow wr.drew at1 acc) := hra.drew
      have HNa : Hid (at1 = none → N = 0) := hna
      have HB : Hid (Below W.heap.size W wr) := hB
      clear hrow hnil hN hra hna hB
      obtain ⟨b, off, rfl, c, hc0', hc1', p0⟩ := HX.out k hkn wr HB.out
      obtain ⟨y, hy⟩ : ∃ y : Int, y = c % 4 := ⟨_, rfl⟩
      obtain ⟨z, hz⟩ : ∃ z : Int, z = c / 4 := ⟨_, rfl⟩
      obtain ⟨u, hu⟩ : ∃ u : Int, u = z % 8 := ⟨_, rfl⟩
      have hyb : 0 ≤ y ∧ y < 4 := by omega
      have hzb : 0 ≤ z ∧ z ≤ 65535 := by omega
      have hub : 0 ≤ u ∧ u < 8 := by omega
      have e1 : c.tmod 4 = y := by rw [Int.tmod_eq_emod_of_nonneg (by omega)]; exact hy.symm
      have e2 : IntKind.i64.wrap y = y := by rw [IntKind.wrap_i64]; omega
      have e3 : IntKind.u16.wrap (c.tdiv 4) = z := by rw [Int.tdiv_eq_ediv_of_nonneg (by omega)]; simp [IntKind.wrap, IntKind.bits, IntKind.signed]; omega
      have e4 : z.tmod 8 = u := by rw [Int.tmod_eq_emod_of_nonneg (by omega)]; exact hu.symm
      have e5 : IntKind.i64.wrap u = u := by rw [IntKind.wrap_i64]; omega
      have e6 : IntKind.u16.wrap y = y := by simp [IntKind.wrap, IntKind.bits, IntKind.signed]; omega
      have e7 : IntKind.u16.wrap u = u := by simp [IntKind.wrap, IntKind.bits, IntKind.signed]; omega
      clear hy hz hu
      have HAc2 : Hid ((acc ++ [(⟨y, u⟩ : Dt)]).length = n0 + (k + 1)) := by show _ = _; rw [List.length_append, ← HN.out, HAcc.out]; rfl
      have HLit : Hid (∀ v : World, DRow (v.alloc (.cells #[.int .i64 y, .int .i64 u] 23)) (some ⟨v.heap.size, 0, none⟩) [⟨y, u⟩]) := fun v => lit_dots v [⟨y, u⟩] rfl
      have hblk : b < W.heap.size := by
        obtain ⟨b', off', ha, c', _, _, hc'⟩ := HX.out k hkn W (Below.refl _ _)
        have hbb : b = b' := by simpa using congrArg (fun x : Option Addr => x.map (·.block)) ha
        rw [hbb]
        exact World.block_lt_of_cell? W _ hc'
      go_upto_region 8 with (fail)
      have HBd : Hid (Below W.heap.size W wr.drew) := HB.out.drew
      clear HB
      refine wp_region_held_drew (S := fun w' => w'.cell? ⟨b, off + k, none⟩ = some (.int .u16 c)) (by kernel_rfl) p0 (fun hS => ?_)
      clear p0
      generalize wr.drew = v0 at *
      have HCell : Hid (∀ w', Below W.heap.size W w' → w'.cell? ⟨b, off + k, none⟩ = some (.int .u16 c)) := fun w' hB => by
        rw [hB.cell hblk, ← HBd.out.cell hblk]
        exact hS
      refine wpAnyH_take (i := 0) (v := ?_) rfl (by kernel_rfl) (by kernel_rfl) (by kernel_rfl) (fun _ _ _ h => h) (Or.inl ⟨by rfl, ?_⟩) hS ?_
      rotate_left 1
      · intro w hSw; (try dsimp only at hSw); go_simp <;> with_reducible rfl
      simp only [List.getElem_toArray, List.getElem_cons_zero, List.getElem_cons_succ, Act.put, List.setIfInBounds_toArray, List.set_cons_zero, List.set_cons_succ]
      refine wpAnyH_take (i := 1) (v := ?_) rfl (by kernel_rfl) (by kernel_rfl) (by kernel_rfl) (fun _ _ _ h => h) (Or.inl ⟨by rfl, ?_⟩) hS ?_
      rotate_left 1
      · intro w hSw; (try dsimp only at hSw); go_simp <;> with_reducible rfl
      simp only [List.getElem_toArray, List.getElem_cons_zero, List.getElem_cons_succ, Act.put, List.setIfInBounds_toArray, List.set_cons_zero, List.set_cons_succ]
      refine wpAnyH_take (i := 2) (v := ?_) rfl (by kernel_rfl) (by kernel_rfl) (by kernel_rfl) (fun _ _ _ h => h) (Or.inl ⟨by rfl, ?_⟩) hS ?_
      rotate_left 1
      · intro w hSw; (try dsimp only at hSw); go_simp <;> with_reducible rfl
      simp only [List.getElem_toArray, List.getElem_cons_zero, List.getElem_cons_succ, Act.put, List.setIfInBounds_toArray, List.set_cons_zero, List.set_cons_succ]
      refine wpAnyH_take (i := 3) (v := ?_) rfl (by kernel_rfl) (by kernel_rfl) (by kernel_rfl) (fun _ _ _ h => h) (Or.inl ⟨by rfl, ?_⟩) hS ?_
      rotate_left 1
      · intro w hSw; (try dsimp only at hSw); go_simp <;> with_reducible rfl
      simp only [List.getElem_toArray, List.getElem_cons_zero, List.getElem_cons_succ, Act.put, List.setIfInBounds_toArray, List.set_cons_zero, List.set_cons_succ]
      refine wpAnyH_take (i := 4) (v := ?_) rfl (by kernel_rfl) (by kernel_rfl) (by kernel_rfl) (fun _ _ _ h => h) (Or.inl ⟨by rfl, ?_⟩) hS ?_
      rotate_left 1
      · intro w hSw; (try dsimp only at hSw); go_simp <;> with_reducible rfl
      simp only [List.getElem_toArray, List.getElem_cons_zero, List.getElem_cons_succ, Act.put, List.setIfInBounds_toArray, List.set_cons_zero, List.set_cons_succ]
      refine wpAnyH_take (i := 5) (v := ?_) rfl (by kernel_rfl) (by kernel_rfl) (by kernel_rfl) (fun _ _ _ h => h) (Or.inl ⟨by rfl, ?_⟩) hS ?_
      rotate_left 1
      · intro w hSw; (try dsimp only at hSw); go_simp <;> with_reducible rfl
      simp only [List.getElem_toArray, List.getElem_cons_zero, List.getElem_cons_succ, Act.put, List.setIfInBounds_toArray, List.set_cons_zero, List.set_cons_succ]
      refine wpAnyH_take (i := 6) (v := ?_) rfl (by kernel_rfl) (by kernel_rfl) (by kernel_rfl) (fun _ _ _ h => h) (Or.inl ⟨by rfl, ?_⟩) hS ?_
      rotate_left 1
      · intro w hSw; (try dsimp only at hSw); go_simp <;> with_reducible rfl
      simp only [List.getElem_toArray, List.getElem_cons_zero, List.getElem_cons_succ, Act.put, List.setIfInBounds_toArray, List.set_cons_zero, List.set_cons_succ]
      refine wpAnyH_take (i := 7) (v := ?_) rfl (by kernel_rfl) (by kernel_rfl) (by kernel_rfl) (fun _ _ _ h => h) (Or.inl ⟨by rfl, ?_⟩) hS ?_
      rotate_left 1
      · intro w hSw; (try dsimp only at hSw); go_simp <;> with_reducible rfl
      simp only [List.getElem_toArray, List.getElem_cons_zero, List.getElem_cons_succ, Act.put, List.setIfInBounds_toArray, List.set_cons_zero, List.set_cons_succ]
      refine wpAnyH_take (i := 8) (v := ?_) rfl (by kernel_rfl) (by kernel_rfl) (by kernel_rfl) (fun _ _ _ h => h) (Or.inl ⟨by rfl, ?_⟩) hS ?_
      rotate_left 1
      · intro w hSw; (try dsimp only at hSw); go_simp <;> with_reducible rfl
      simp only [List.getElem_toArray, List.getElem_cons_zero, List.getElem_cons_succ, Act.put, List.setIfInBounds_toArray, List.set_cons_zero, List.set_cons_succ]
      refine wpAnyH_take (i := 9) (v := ?_) rfl (by kernel_rfl) (by kernel_rfl) (by kernel_rfl) (fun _ _ _ h => h) (Or.inl ⟨by rfl, ?_⟩) hS ?_
      rotate_left 1
      · intro w hSw; (try dsimp only at hSw); go_simp <;> with_reducible rfl
      simp only [List.getElem_toArray, List.getElem_cons_zero, List.getElem_cons_succ, Act.put, List.setIfInBounds_toArray, List.set_cons_zero, List.set_cons_succ]
      refine wpAnyH_take (i := 10) (v := ?_) rfl (by kernel_rfl) (by kernel_rfl) (by kernel_rfl) (fun _ _ _ h => h) (Or.inl ⟨by rfl, ?_⟩) hS ?_
      rotate_left 1
      · intro w hSw; (try dsimp only at hSw); go_simp <;> with_reducible rfl
      simp only [List.getElem_toArray, List.getElem_cons_zero, List.getElem_cons_succ, Act.put, List.setIfInBounds_toArray, List.set_cons_zero, List.set_cons_succ]
      refine wpAnyH_take (i := 11) (v := ?_) rfl (by kernel_rfl) (by kernel_rfl) (by kernel_rfl) (fun _ _ _ h => h) (Or.inl ⟨by rfl, ?_⟩) hS ?_
      rotate_left 1
      · intro w hSw; (try dsimp only at hSw); go_simp <;> with_reducible rfl
      simp only [List.getElem_toArray, List.getElem_cons_zero, List.getElem_cons_succ, Act.put, List.setIfInBounds_toArray, List.set_cons_zero, List.set_cons_succ]
      refine wpAnyH_take (i := 12) (v := ?_) rfl (by kernel_rfl) (by kernel_rfl) (by kernel_rfl) (fun _ _ _ h => h) (Or.inl ⟨by rfl, ?_⟩) hS ?_
      rotate_left 1
      · intro w hSw; (try dsimp only at hSw); go_simp <;> with_reducible rfl
      simp only [List.getElem_toArray, List.getElem_cons_zero, List.getElem_cons_succ, Act.put, List.setIfInBounds_toArray, List.set_cons_zero, List.set_cons_succ]
      refine wpAnyH_take (i := 13) (v := ?_) rfl (by kernel_rfl) (by kernel_rfl) (by kernel_rfl) (fun _ _ _ h => h) (Or.inl ⟨by rfl, ?_⟩) hS ?_
      rotate_left 1
      · intro w hSw; (try dsimp only at hSw); go_simp <;> with_reducible rfl
      simp only [List.getElem_toArray, List.getElem_cons_zero, List.getElem_cons_succ, Act.put, List.setIfInBounds_toArray, List.set_cons_zero, List.set_cons_succ]
      refine wpAnyH_take (i := 14) (v := ?_) rfl (by kernel_rfl) (by kernel_rfl) (by kernel_rfl) (fun _ _ _ h => h) (Or.inl ⟨by rfl, ?_⟩) hS ?_
      rotate_left 1
      · intro w hSw; (try dsimp only at hSw); go_simp <;> with_reducible rfl
      simp only [List.getElem_toArray, List.getElem_cons_zero, List.getElem_cons_succ, Act.put, List.setIfInBounds_toArray, List.set_cons_zero, List.set_cons_succ]
      refine wpAnyH_take (i := 15) (v := ?_) rfl (by kernel_rfl) (by kernel_rfl) (by kernel_rfl) (fun _ _ _ h => h) (Or.inl ⟨by rfl, ?_⟩) hS ?_
      rotate_left 1
      · intro w hSw; (try dsimp only at hSw); go_simp <;> with_reducible rfl
      simp only [List.getElem_toArray, List.getElem_cons_zero, List.getElem_cons_succ, Act.put, List.setIfInBounds_toArray, List.set_cons_zero, List.set_cons_succ]
      refine wpAnyH_take (i := 16) (v := ?_) rfl (by kernel_rfl) (by kernel_rfl) (by kernel_rfl) (fun _ _ _ h => h) (Or.inl ⟨by rfl, ?_⟩) hS ?_
      rotate_left 1
      · intro w hSw; (try dsimp only at hSw); go_simp <;> with_reducible rfl
      simp only [List.getElem_toArray, List.getElem_cons_zero, List.getElem_cons_succ, Act.put, List.setIfInBounds_toArray, List.set_cons_zero, List.set_cons_succ]
      refine wpAnyH_take (i := 17) (v := ?_) rfl (by kernel_rfl) (by kernel_rfl) (by kernel_rfl) (fun _ _ _ h => h) (Or.inl ⟨by rfl, ?_⟩) hS ?_
      rotate_left 1
      · intro w hSw; (try dsimp only at hSw); go_simp <;> with_reducible rfl
      simp only [List.getElem_toArray, List.getElem_cons_zero, List.getElem_cons_succ, Act.put, List.setIfInBounds_toArray, List.set_cons_zero, List.set_cons_succ]
      refine wpAnyH_take (i := 18) (v := ?_) rfl (by kernel_rfl) (by kernel_rfl) (by kernel_rfl) (fun _ _ _ h => h) (Or.inl ⟨by rfl, ?_⟩) hS ?_
      rotate_left 1
      · intro w hSw; (try dsimp only at hSw); go_simp <;> with_reducible rfl
      simp only [List.getElem_toArray, List.getElem_cons_zero, List.getElem_cons_succ, Act.put, List.setIfInBounds_toArray, List.set_cons_zero, List.set_cons_succ]
      refine wpAnyH_take (i := 19) (v := ?_) rfl (by kernel_rfl) (by kernel_rfl) (by kernel_rfl) (fun _ _ _ h => h) (Or.inl ⟨by rfl, ?_⟩) hS ?_
      rotate_left 1
      · intro w hSw; (try dsimp only at hSw); go_simp <;> with_reducible rfl
      simp only [List.getElem_toArray, List.getElem_cons_zero, List.getElem_cons_succ, Act.put, List.setIfInBounds_toArray, List.set_cons_zero, List.set_cons_succ]
      refine wpAnyH_ready (rs := [20]) (by kernel_rfl) (by simp) ?_
      refine AllReadyH.cons rfl (fun K hK => ?_) AllReadyH.nil
      go_simp
      have hbl : Below v0.heap.size v0 (v0.alloc (.cells #[.int .i64 y, .int .i64 u] 23)) := (Below.refl _ _).alloc (Nat.le_refl _) _
      have HLi : Hid _ := HLit.out v0
      have HR2 : Hid _ := DRow.later HR.out hbl
      have HB2 : Hid _ := HBd.out.trans (hbl.mono HBd.out.size)
      refine hK.out _ _ (HCell.out _ HB2.out) (fun hS => ?_)
      clear hK K HR HBd hbl
      generalize v0.alloc (.cells #[.int .i64 y, .int .i64 u] 23) = v1 at *
      generalize v0.heap.size = gl at *
      refine wpAnyH_ready (rs := [21]) (by kernel_rfl) (by simp) ?_
      refine AllReadyH.cons rfl (fun K hK => ?_) AllReadyH.nil
      refine wp_app_full _ _ rfl at1 acc N HN.out rfl HR2.out ⟨gl, 0, none⟩ 1 [⟨y, u⟩] 1 rfl rfl HLi.out (by omega) HNa.out (by rw [← HN.out]; have := HAcc.out; simp; omega) ?_
      intro v2 w2 hown2 hgrow2
      have HB3 : Hid (Below W.heap.size W w2) := HB2.out.grown hgrow2 HB2.out.size (fun j hj => by cases hj)
      have HO3 : Hid (Dots w2 v2 (acc ++ [⟨y, u⟩])) := hown2.dots
      refine hK.out _ _ (HCell.out _ HB3.out) (fun hS => ?_)
      clear hK K hown2 hgrow2 HR2 HB2 HLi
      refine wpAnyH_take (i := 22) (v := ?_) rfl (by kernel_rfl) (by kernel_rfl) (by kernel_rfl) (fun _ _ _ h => h) (Or.inl ⟨by rfl, ?_⟩) hS ?_
      rotate_left 1
      · intro w hSw; (try dsimp only at hSw); go_simp <;> with_reducible rfl
      simp only [List.getElem_toArray, List.getElem_cons_zero, List.getElem_cons_succ, Act.put, List.setIfInBounds_toArray, List.set_cons_zero, List.set_cons_succ]
      refine wpAnyH_done (by kernel_rfl) ?_ _
      go_wp2
      go_roundw
      case rel => exact ⟨k + 1, acc ++ [⟨y, u⟩], by omega, by go_num, HO3.out, HAc2.out, HB3.out⟩
      case measure => simp [intOf]; omega
    · have hke : k = n := by omega
      have hdk : decide ((k : Int) < (n : Int)) = false := by simp; omega
      subst hke
      clear hkn hk
      have hN2 : N ≤ 200 := by have := HAcc.out; omega
      have HDl : Hid (Dots wr (.slice ao N ca) acc) := ⟨ao, ca, by rw [HN.out], hrow, by omega, hcm, hnil⟩
      have HB : Hid (Below W.heap.size W wr) := hB
      have HSo : Hid _ := sort_dots HDl.out (by rw [← HN.out]; omega)
      have HRs : Hid (∀ w, Below wr.heap.size wr w → _) := fun w (hB : Below wr.heap.size wr w) => ref_sort_dots (Dots.later HDl.out hB) (by rw [← HN.out]; omega)
      have HRw : Hid (DRow wr ao acc) := hrow
      have HCa : Hid (N ≤ ca) := hac
      have HTm : Hid (∀ x, x ∈ turn acc kk acc.length ↔ x ∈ acc) := fun x => turn_mem acc kk x
      have HTs : Hid (∀ m, turn acc kk (m + 1) = turn acc kk m ++ [acc[N - 1 - (m + kk) % N]?.getD DotMath.zero]) := fun m => by rw [turn_succ, ← HN.out]
      have HSl : Hid ((DotMath.sort acc).length ≤ 200) := by show _ ≤ _; have := DotMath.sort_len acc; rw [← HN.out] at this; omega
      have HS1 : Hid (DotMath.sort (turn acc kk N) = DotMath.sort acc) := by rw [HN.out]; exact DotMath.sort_eq HTm.out
      have HS2 : Hid (DotMath.sort (DotMath.sort acc) = DotMath.sort acc) := DotMath.sort_sort acc
      have HS3 : Hid (DotMath.sort (turn acc kk N ++ DotMath.sort acc) = DotMath.sort acc) := by
       rw [HN.out]
       exact DotMath.sort_eq (fun x => by
        rw [List.mem_append, HTm.out, DotMath.sort_mem]; simp)
      clear hac hcm hnil hrow hN hB HX HD0 HN0 hbig0 hb0 hbig hbi hc1 HTm HAcc
      obtain ⟨so, hso⟩ : ∃ so, so = DotMath.sort acc := ⟨_, rfl⟩
      rw [← hso] at HSl HS1 HS3
      simp only [← hso] at HSo HRs HS2
      clear hso
      go_wp2_with fail
      refine Calls.mono HSo.out ?_
      rintro r w2 ⟨vs, rfl, hds, hb2⟩
      obtain ⟨asl, cs, rfl, hrs, hcs, hms, hns⟩ := hds
      obtain ⟨ls, hls⟩ : ∃ ls, ls = so.length := ⟨_, rfl⟩
      have HLs : Hid (ls = so.length) := hls
      have HNs : Hid (asl = none → cs = 0) := hns
      have HCs : Hid (ls ≤ cs) := by show _ ≤ _; omega
      have HDs : Hid (∀ w, Below w2.heap.size w2 w → Dots w (.slice asl ls cs) so) := fun w hB => ⟨asl, cs, by rw [hls], DRow.later hrs hB, hcs, hms, hns⟩
      have HRv0 : Hid (∀ w, Below w2.heap.size w2 w → DRow w asl so) := fun w hB => DRow.later hrs hB
      rw [← hls]
      clear hrs hcs hms hns hls
      have HR2 : Hid (∀ w, Below w2.heap.size w2 w → DRow w ao acc) := fun w hB => DRow.later HRw.out (hb2.trans (hB.mono hb2.size))
      have HRs2 : Hid (∀ w, Below w2.heap.size w2 w → _) := fun w (hB : Below w2.heap.size w2 w) => HRs.out w (hb2.trans (hB.mono hb2.size))
      have HB2 : Hid (Below W.heap.size W w2) := HB.out.trans (hb2.mono HB.out.size)
      clear hb2 HDl HB HSo HRs HRw
      go_wp2_with fail
      go_loopw [9, 10] (fun t i wr => ∃ m : Nat, m ≤ N ∧ i = .int .i64 m ∧ DOwn wr w2.heap.size t (turn acc kk m) ∧ Below w2.heap.size w2 wr) (fun _ i _ => N - (intOf i).toNat)
      case atStart => exact ⟨0, by omega, rfl, DOwn.nil _ _, Below.refl _ _⟩
      case round =>
        obtain ⟨m, hm, rfl, hO, hB⟩ := hrel
        have HO : Hid (DOwn wr w2.heap.size _ (turn acc kk m)) := hO
        have HB : Hid (Below w2.heap.size w2 wr) := hB
        clear hO hB
        by_cases hmN : m < N
        · have hmi : (m : Int) < (N : Int) := by omega
          obtain ⟨r, hr⟩ : ∃ r, r = (m + kk) % N := ⟨_, rfl⟩
          have hrN : r < N := by rw [hr]; exact Nat.mod_lt _ (by omega)
          obtain ⟨j, hj⟩ : ∃ j, j = N - 1 - r := ⟨_, rfl⟩
          have hjN : j < N := by omega
          have HTt := HTs.out m
          rw [← hr, ← hj] at HTt
          obtain ⟨b, off, rfl, _⟩ := DRow.at (HR2.out wr HB.out) (by rw [← HN.out]; exact Nat.lt_of_le_of_lt (Nat.zero_le _) hmN)
          obtain ⟨p0, p1⟩ := DRow.cells (HR2.out wr HB.out) (i := j) (by rw [← HN.out]; exact hjN)
          have hjc : (j : Int) < (ca : Int) := by have := HCa.out; omega
          have hlt1 : m + 1 ≤ 8796093022208 := by omega
          have f3 : ((m : Int) + (kk : Int)).tmod (N : Int) = (r : Int) := by
            rw [Int.tmod_eq_emod_of_nonneg (by omega), hr]; simp
          have f1 : IntKind.i64.wrap ((N : Int) - 1) = (N : Int) - 1 := by rw [IntKind.wrap_i64]; omega
          have f2 : IntKind.i64.wrap ((m : Int) + (kk : Int)) = (m : Int) + (kk : Int) := by rw [IntKind.wrap_i64]; omega
          have f4 : (N : Int) - 1 - (r : Int) = (j : Int) := by omega
          have f5 : IntKind.i64.wrap (j : Int) = (j : Int) := by rw [IntKind.wrap_i64]; omega
          have f6 : IntKind.i64.wrap (r : Int) = (r : Int) := by rw [IntKind.wrap_i64]; omega
          have f7 : IntKind.i64.wrap (kk : Int) = (kk : Int) := by rw [IntKind.wrap_i64]; omega
          have f8 : ((N : Int) == 0) = false := by simp; omega
          have hji : (j : Int) < (N : Int) := by omega
          generalize acc[j]?.getD DotMath.zero = q at *
          have HTt : Hid _ := HTt
          have hlen : (turn acc kk m).length = m := turn_len acc kk m
          have HLt : Hid ((turn acc kk m).length = m) := hlen
          clear hr hj hlen
          have hlit : DRow (wr.alloc (.cells (flatD [q]).toArray 23)) (some ⟨wr.heap.size, 0, none⟩) [q] := lit_dots wr [q] rfl
          have hO8 := HO.out.alloc (.cells (flatD [q]).toArray 23)
          have HO8 : Hid _ := hO8
          have HLi : Hid _ := hlit
          have hB8 : Below w2.heap.size w2 (wr.alloc (.cells (flatD [q]).toArray 23)) := HB.out.alloc HB.out.size _
          have HB8 : Hid _ := hB8
          clear hO8 hlit hB8
          generalize turn acc kk m = tu at *
          go_wp2_with (at_builtin; refine wpList_app_dots rfl _ _ rfl w2.heap.size _ tu rfl HO8.out (some ⟨wr.heap.size, 0, none⟩) 1 [q] 1 rfl rfl HLi.out (by simp) (Nat.le_refl _) (by rw [HLt.out]; exact hlt1) HB8.out.size ?_; intro v4 w4 hown4 hgrow4)
          have HO9 : Hid (DOwn w4 w2.heap.size v4 (turn acc kk (m + 1))) := by rw [HTt.out]; exact hown4
          have HB9 : Hid (Below w2.heap.size w2 w4) := HB8.out.grown hgrow4 HB8.out.size (fun q hq => (HO8.out.lt q hq).1)
          clear hown4 hgrow4 HO8 HB8 HLi p0 p1 f1 f2 f3 f4 f5 f6 f7 f8
          go_wp2
          go_roundw
          case rel => exact ⟨m + 1, by omega, by go_num, HO9.out, HB9.out⟩
          case measure => simp [intOf]; omega
        · have hmk : m = N := by omega
          have hdm : decide ((m : Int) < (N : Int)) = false := by simp; omega
          subst hmk
          have HTl : Hid ((turn acc kk m).length ≤ 200) := by show _ ≤ _; rw [turn_len]; exact hN2
          generalize turn acc kk m = tu at *
          clear hmN hm
          go_wp2_with fail
          refine Calls.mono (HRs2.out _ HB.out) ?_
          rintro r w3 ⟨v1, rfl, hd3, hb3⟩
          have HD3 : Hid (Dots w3 v1 so) := hd3
          have HO3 : Hid _ := HO.out.later hb3
          have HB3 : Hid (Below w2.heap.size w2 w3) := HB.out.trans (hb3.mono HB.out.size)
          clear hd3 hb3 HO HB HRs2
          go_wp2_with fail
          refine Calls.mono (same_dots (HDs.out _ HB3.out) HD3.out) ?_
          rintro r w4 ⟨rfl, hb4⟩
          have HO4 : Hid _ := HO3.out.later hb4
          have HB4 : Hid (Below w2.heap.size w2 w4) := HB3.out.trans (hb4.mono HB3.out.size)
          clear hb4 HO3 HB3 HD3
          go_wp2_with fail
          refine Calls.mono (sort_dots HO4.out.dots (by have := HTl.out; omega)) ?_
          rintro r w5 ⟨v3, rfl, hd5, hb5⟩
          rw [HS1.out] at hd5
          have HD5 : Hid (Dots w5 v3 so) := hd5
          have HO5 : Hid _ := HO4.out.later hb5
          have HB5 : Hid (Below w2.heap.size w2 w5) := HB4.out.trans (hb5.mono HB4.out.size)
          clear hd5 hb5 HO4 HB4
          go_wp2_with fail
          refine Calls.mono (same_dots HD5.out (HDs.out _ HB5.out)) ?_
          rintro r w6 ⟨rfl, hb6⟩
          have HO6 : Hid _ := HO5.out.later hb6
          have HB6 : Hid (Below w2.heap.size w2 w6) := HB5.out.trans (hb6.mono HB5.out.size)
          clear hb6 HO5 HB5 HD5
          go_wp2_with fail
          refine Calls.mono (sort_dots (HDs.out _ HB6.out) (by have := HSl.out; omega)) ?_
          rintro r w7 ⟨v5, rfl, hd7, hb7⟩
          rw [HS2.out] at hd7
          have HD7 : Hid (Dots w7 v5 so) := hd7
          have HO7 : Hid _ := HO6.out.later hb7
          have HB7 : Hid (Below w2.heap.size w2 w7) := HB6.out.trans (hb7.mono HB6.out.size)
          clear hd7 hb7 HO6 HB6
          go_wp2_with fail
          refine Calls.mono (same_dots HD7.out (HDs.out _ HB7.out)) ?_
          rintro r w8 ⟨rfl, hb8⟩
          have HO8 : Hid _ := HO7.out.later hb8
          have HB8 : Hid (Below w2.heap.size w2 w8) := HB7.out.trans (hb8.mono HB7.out.size)
          have HRv : Hid (DRow w8 asl so) := HRv0.out _ HB8.out
          clear hb8 HO7 HB7 HD7
          go_wp2_with (at_builtin; refine wpList_want (by rfl) (fun K hK => wp_app_dots (.tmp 91) (.tmp 92) rfl w2.heap.size _ tu rfl HO8.out asl cs so ls HLs.out rfl HRv.out HNs.out HCs.out (by have := HTl.out; have := HSl.out; omega) HB8.out.size (fun v9 w9 hown9 hgrow9 => hK _ _ ?_)))
          have HO9 : Hid (Dots w9 v9 (tu ++ so)) := hown9.dots
          have HB9 : Hid (Below w2.heap.size w2 w9) := HB8.out.grown hgrow9 HB8.out.size (fun q hq => (HO8.out.lt q hq).1)
          clear hown9 hgrow9 HO8 HB8 HRv
          refine Calls.mono (sort_dots HO9.out (by have := HTl.out; have := HSl.out; rw [List.length_append]; omega)) ?_
          rintro r w10 ⟨v7, rfl, hd10, hb10⟩
          rw [HS3.out] at hd10
          have HD10 : Hid (Dots w10 v7 so) := hd10
          have HB10 : Hid (Below w2.heap.size w2 w10) := HB9.out.trans (hb10.mono HB9.out.size)
          clear hd10 hb10 HO9 HB9
          go_wp2_with fail
          refine Calls.mono (same_dots HD10.out (HDs.out _ HB10.out)) ?_
          rintro r w11 ⟨rfl, hb11⟩
          have HB11 : Hid (Below W.heap.size W w11) := HB2.out.trans ((HB10.out.trans (hb11.mono HB10.out.size)).mono HB2.out.size)
          clear hb11
          go_wp2
          go_ret
          exact ⟨rfl, HB11.out⟩
end Go.Proofs.Ytehaeepihjookaa

/-
  Walk of newsreellaw9.DotLists.
-/
import Derived.Test.YtehaeepihjookaaL9ListsM
import Derived.Deep.CutRange
namespace Go.Proofs.Ytehaeepihjookaa
open Go.RowKit NumMath
open DotMath (Dt)
set_option maxRecDepth 100000
set_option linter.unusedVariables false
set_option linter.unusedSimpArgs false

set_option maxHeartbeats 64000000 in
theorem dotLists_walk (a0 : Option Addr) (ds : List Dt) (cap0 : Nat) (a1 : Option Addr) (xs1 : List Int) (cap1 : Nat) (a2 : Option Addr) (ts : List Int) (cap2 : Nat) (W : World)
    (hr0 : DRow W a0 ds) (hc0 : ds.length ≤ cap0) (hm0 : cap0 ≤ maxLen) (hf0 : (∀ s ∈ ds, DotMath.Fit s) ∧ (a0 = none → cap0 = 0))
    (hr1 : Row .u16 W a1 xs1) (hc1 : xs1.length ≤ cap1) (hm1 : cap1 ≤ maxLen) (hn1 : a1 = none → cap1 = 0) (hw1 : ∀ n ∈ xs1, (Lit.int .u16 n).wf = true) (hs1 : cap1 * 2 ≤ 140737488351232)
    (hr2 : Row .u8 W a2 ts) (hc2 : ts.length ≤ cap2) (hm2 : cap2 ≤ maxLen) (hn2 : a2 = none → cap2 = 0) (hw2 : ∀ n ∈ ts, (Lit.int .u8 n).wf = true) (hs2 : cap2 * 1 ≤ 140737488351232) :
    Calls Try.prog 6 #[.slice a0 ds.length cap0, .slice a1 xs1.length cap1, .slice a2 ts.length cap2] W fun r W' => r = .returned (.bool true) ∧ Below W.heap.size W W' := by
  have hxb : ∀ c ∈ xs1, 0 ≤ c ∧ c ≤ 65535 := fun c hc => bounds_u16 (hw1 c hc)
  have htb : ∀ c ∈ ts, 0 ≤ c ∧ c ≤ 255 := fun c hc => bounds_u8 (hw2 c hc)
  have HKn : Hid (∀ w, _) := fun w => known_any w
  have HD0 : Hid (∀ w, Below W.heap.size W w → Dots w (.slice a0 ds.length cap0) ds) := fun w hB => ⟨a0, cap0, rfl, hr0.later hB, hc0, hm0, hf0.2⟩
  have HT : Hid (∀ w, Below W.heap.size W w → Bytes w (.slice a2 ts.length cap2) ts) := fun w hB => ⟨a2, cap2, rfl, hr2.later hB, htb, hc2, hm2, hn2⟩
  have HX : Hid (∀ k, k < xs1.length → ∀ w, Below W.heap.size W w → ∃ b off, a1 = some ⟨b, off, none⟩ ∧ ∃ c : Int, 0 ≤ c ∧ c ≤ 65535 ∧ w.cell? ⟨b, off + k, none⟩ = some (.int .u16 c)) := fun k hk w hB => by
    rcases hr1.later hB with h | ⟨b, off, ha, hc⟩
    · rw [h] at hk; simp at hk
    · have := hxb _ (mem_getD xs1 k hk)
      exact ⟨b, off, ha, _, this.1, this.2, hc k hk⟩
  have HTl : Hid (ts.length ≤ 140737488351232) := by show _ ≤ _; omega
  have HTb : Hid (∀ c ∈ ts, 0 ≤ c ∧ c ≤ 255) := htb
  obtain ⟨n0, hn0⟩ : ∃ L, L = ds.length := ⟨_, rfl⟩
  obtain ⟨n, hn⟩ : ∃ n, n = xs1.length := ⟨_, rfl⟩
  obtain ⟨L2, hL2⟩ : ∃ L, L = ts.length := ⟨_, rfl⟩
  rw [← hn0] at HD0 ⊢
  rw [← hn] at hc1 HX ⊢
  rw [← hL2] at HT ⊢
  have HN0 : Hid (n0 = ds.length) := hn0
  unfold maxLen at hm1
  clear hr0 hc0 hm0 hf0 hr1 hn1 hw1 hs1 hr2 hc2 hm2 hn2 hw2 hs2 hxb htb hn0 hn hL2
  go_enter Try.func6, Try.ntmps6
  go_wp2_with fail
  refine Calls.mono (HKn.out _) ?_
  rintro r w1 ⟨rfl, hb1⟩
  have HB1 : Hid (Below W.heap.size W w1) := hb1
  clear hb1 HKn
  by_cases hbig0 : 100 < n0
  · have hb0 : decide ((100 : Int) < (n0 : Int)) = true := by simp; omega
    go_wp2
    go_ret
    exact ⟨rfl, HB1.out⟩
  have hb0 : decide ((100 : Int) < (n0 : Int)) = false := by simp; omega
  by_cases hbig : 100 < n
  · have hbi : decide ((100 : Int) < (n : Int)) = true := by simp; omega
    go_wp2
    go_ret
    exact ⟨rfl, HB1.out⟩
  have hbi : decide ((100 : Int) < (n : Int)) = false := by simp; omega
  go_wp2
  go_loopw [7, 8] (fun v i wr => ∃ (k : Nat) (acc : List Dt), k ≤ n ∧ i = .int .i64 k ∧ DOwn wr w1.heap.size v acc ∧ Hid (∀ d ∈ acc, DotMath.right d = true) ∧ acc.length = k ∧ Below w1.heap.size w1 wr) (fun _ i _ => n - (intOf i).toNat)
  case atStart => exact ⟨0, [], by omega, rfl, DOwn.nil _ _, (fun d hd => by cases hd), rfl, Below.refl _ _⟩
  case round =>
    obtain ⟨k, acc, hk, rfl, hO, HRt, hacc, hB⟩ := hrel
    have HAcc : Hid (acc.length = k) := hacc
    by_cases hkn : k < n
    · have hki : (k : Int) < (n : Int) := by omega
      have hkc : (k : Int) < (cap1 : Int) := by omega
      have HO : Hid (DOwn wr.drew w1.heap.size _ acc) := ⟨hO.own⟩
      have HB : Hid (Below w1.heap.size w1 wr) := hB
      clear hO hB hacc
      obtain ⟨b, off, rfl, c, hc0', hc1', p0⟩ := HX.out k hkn wr (HB1.out.trans (HB.out.mono HB1.out.size))
      obtain ⟨y, hy⟩ : ∃ y : Int, y = c % 64 := ⟨_, rfl⟩
      obtain ⟨z, hz⟩ : ∃ z : Int, z = c / 64 := ⟨_, rfl⟩
      have hyb : 0 ≤ y ∧ y < 64 := by omega
      have hzb : 0 ≤ z ∧ z ≤ 1023 := by omega
      have e1 : c.tmod 64 = y := by rw [Int.tmod_eq_emod_of_nonneg (by omega)]; exact hy.symm
      have e2 : IntKind.i64.wrap y = y := by rw [IntKind.wrap_i64]; omega
      have e3 : IntKind.u16.wrap (c.tdiv 64) = z := by rw [Int.tdiv_eq_ediv_of_nonneg (by omega)]; simp [IntKind.wrap, IntKind.bits, IntKind.signed]; omega
      have e4 : IntKind.i64.wrap z = z := by rw [IntKind.wrap_i64]; omega
      have e5 : IntKind.i64.wrap (z + 1) = z + 1 := by rw [IntKind.wrap_i64]; omega
      have e6 : IntKind.u16.wrap y = y := by simp [IntKind.wrap, IntKind.bits, IntKind.signed]; omega
      clear hy hz
      obtain ⟨q, hq⟩ : ∃ q : Dt, q = ⟨y, z + 1⟩ := ⟨_, rfl⟩
      have hqr : DotMath.right q = true := by rw [hq, DotMath.right_iff]; simp only []; omega
      have HRt2 : Hid (∀ d ∈ acc ++ [q], DotMath.right d = true) := fun d hd => by
        rcases List.mem_append.1 hd with h | h
        · exact HRt.out d h
        · simp at h; rw [h]; exact hqr
      have HAc2 : Hid ((acc ++ [q]).length = k + 1) := by show _ = _; rw [List.length_append, HAcc.out]; rfl
      have HLit : Hid (∀ v : World, DRow (v.alloc (.cells #[.int .i64 y, .int .i64 (z + 1)] 23)) (some ⟨v.heap.size, 0, none⟩) [q]) := fun v => by rw [hq]; exact lit_dots v [⟨y, z + 1⟩] rfl
      clear hq hqr
      go_upto_region 9 with (fail)
      have HBd : Hid (Below w1.heap.size w1 wr.drew) := HB.out.drew
      clear HB
      refine wp_region_held_drew (S := fun w' => w'.cell? ⟨b, off + k, none⟩ = some (.int .u16 c)) (by kernel_rfl) p0 (fun hS => ?_)
      clear p0
      generalize wr.drew = v0 at *
      have hblk : b < w1.heap.size := by
        obtain ⟨b', off', ha, c', _, _, hc'⟩ := HX.out k hkn w1 HB1.out
        have hbb : b = b' := by simpa using congrArg (fun x : Option Addr => x.map (·.block)) ha
        rw [hbb]
        exact World.block_lt_of_cell? w1 _ hc'
      have HCell : Hid (∀ w', Below w1.heap.size w1 w' → w'.cell? ⟨b, off + k, none⟩ = some (.int .u16 c)) := fun w' hB => by
        rw [hB.cell hblk, ← HBd.out.cell hblk]
        exact hS
      refine wpAnyH_take (i := 0) (v := ?_) rfl (by kernel_rfl) (by kernel_rfl) (by kernel_rfl) (fun _ _ _ h => h) (Or.inl ⟨by rfl, ?_⟩) hS ?_
      rotate_left 1
      · intro w hSw; (try dsimp only at hSw); go_simp <;> with_reducible rfl
      simp only [List.getElem_toArray, List.getElem_cons_zero, List.getElem_cons_succ, Act.put, List.setIfInBounds_toArray, List.set_cons_zero, List.set_cons_succ]
      refine wpAnyH_take (i := 1) (v := ?_) rfl (by kernel_rfl) (by kernel_rfl) (by kernel_rfl) (fun _ _ _ h => h) (Or.inl ⟨by rfl, ?_⟩) hS ?_
      rotate_left 1
      · intro w hSw; (try dsimp only at hSw); go_simp <;> with_reducible rfl
      simp only [List.getElem_toArray, List.getElem_cons_zero, List.getElem_cons_succ, Act.put, List.setIfInBounds_toArray, List.set_cons_zero, List.set_cons_succ]
      refine wpAnyH_take (i := 2) (v := ?_) rfl (by kernel_rfl) (by kernel_rfl) (by kernel_rfl) (fun _ _ _ h => h) (Or.inl ⟨by rfl, ?_⟩) hS ?_
      rotate_left 1
      · intro w hSw; (try dsimp only at hSw); go_simp <;> with_reducible rfl
      simp only [List.getElem_toArray, List.getElem_cons_zero, List.getElem_cons_succ, Act.put, List.setIfInBounds_toArray, List.set_cons_zero, List.set_cons_succ]
      refine wpAnyH_take (i := 3) (v := ?_) rfl (by kernel_rfl) (by kernel_rfl) (by kernel_rfl) (fun _ _ _ h => h) (Or.inl ⟨by rfl, ?_⟩) hS ?_
      rotate_left 1
      · intro w hSw; (try dsimp only at hSw); go_simp <;> with_reducible rfl
      simp only [List.getElem_toArray, List.getElem_cons_zero, List.getElem_cons_succ, Act.put, List.setIfInBounds_toArray, List.set_cons_zero, List.set_cons_succ]
      refine wpAnyH_take (i := 4) (v := ?_) rfl (by kernel_rfl) (by kernel_rfl) (by kernel_rfl) (fun _ _ _ h => h) (Or.inl ⟨by rfl, ?_⟩) hS ?_
      rotate_left 1
      · intro w hSw; (try dsimp only at hSw); go_simp <;> with_reducible rfl
      simp only [List.getElem_toArray, List.getElem_cons_zero, List.getElem_cons_succ, Act.put, List.setIfInBounds_toArray, List.set_cons_zero, List.set_cons_succ]
      refine wpAnyH_take (i := 5) (v := ?_) rfl (by kernel_rfl) (by kernel_rfl) (by kernel_rfl) (fun _ _ _ h => h) (Or.inl ⟨by rfl, ?_⟩) hS ?_
      rotate_left 1
      · intro w hSw; (try dsimp only at hSw); go_simp <;> with_reducible rfl
      simp only [List.getElem_toArray, List.getElem_cons_zero, List.getElem_cons_succ, Act.put, List.setIfInBounds_toArray, List.set_cons_zero, List.set_cons_succ]
      refine wpAnyH_take (i := 6) (v := ?_) rfl (by kernel_rfl) (by kernel_rfl) (by kernel_rfl) (fun _ _ _ h => h) (Or.inl ⟨by rfl, ?_⟩) hS ?_
      rotate_left 1
      · intro w hSw; (try dsimp only at hSw); go_simp <;> with_reducible rfl
      simp only [List.getElem_toArray, List.getElem_cons_zero, List.getElem_cons_succ, Act.put, List.setIfInBounds_toArray, List.set_cons_zero, List.set_cons_succ]
      refine wpAnyH_take (i := 7) (v := ?_) rfl (by kernel_rfl) (by kernel_rfl) (by kernel_rfl) (fun _ _ _ h => h) (Or.inl ⟨by rfl, ?_⟩) hS ?_
      rotate_left 1
      · intro w hSw; (try dsimp only at hSw); go_simp <;> with_reducible rfl
      simp only [List.getElem_toArray, List.getElem_cons_zero, List.getElem_cons_succ, Act.put, List.setIfInBounds_toArray, List.set_cons_zero, List.set_cons_succ]
      refine wpAnyH_take (i := 8) (v := ?_) rfl (by kernel_rfl) (by kernel_rfl) (by kernel_rfl) (fun _ _ _ h => h) (Or.inl ⟨by rfl, ?_⟩) hS ?_
      rotate_left 1
      · intro w hSw; (try dsimp only at hSw); go_simp <;> with_reducible rfl
      simp only [List.getElem_toArray, List.getElem_cons_zero, List.getElem_cons_succ, Act.put, List.setIfInBounds_toArray, List.set_cons_zero, List.set_cons_succ]
      refine wpAnyH_take (i := 9) (v := ?_) rfl (by kernel_rfl) (by kernel_rfl) (by kernel_rfl) (fun _ _ _ h => h) (Or.inl ⟨by rfl, ?_⟩) hS ?_
      rotate_left 1
      · intro w hSw; (try dsimp only at hSw); go_simp <;> with_reducible rfl
      simp only [List.getElem_toArray, List.getElem_cons_zero, List.getElem_cons_succ, Act.put, List.setIfInBounds_toArray, List.set_cons_zero, List.set_cons_succ]
      refine wpAnyH_take (i := 10) (v := ?_) rfl (by kernel_rfl) (by kernel_rfl) (by kernel_rfl) (fun _ _ _ h => h) (Or.inl ⟨by rfl, ?_⟩) hS ?_
      rotate_left 1
      · intro w hSw; (try dsimp only at hSw); go_simp <;> with_reducible rfl
      simp only [List.getElem_toArray, List.getElem_cons_zero, List.getElem_cons_succ, Act.put, List.setIfInBounds_toArray, List.set_cons_zero, List.set_cons_succ]
      refine wpAnyH_take (i := 11) (v := ?_) rfl (by kernel_rfl) (by kernel_rfl) (by kernel_rfl) (fun _ _ _ h => h) (Or.inl ⟨by rfl, ?_⟩) hS ?_
      rotate_left 1
      · intro w hSw; (try dsimp only at hSw); go_simp <;> with_reducible rfl
      simp only [List.getElem_toArray, List.getElem_cons_zero, List.getElem_cons_succ, Act.put, List.setIfInBounds_toArray, List.set_cons_zero, List.set_cons_succ]
      refine wpAnyH_take (i := 12) (v := ?_) rfl (by kernel_rfl) (by kernel_rfl) (by kernel_rfl) (fun _ _ _ h => h) (Or.inl ⟨by rfl, ?_⟩) hS ?_
      rotate_left 1
      · intro w hSw; (try dsimp only at hSw); go_simp <;> with_reducible rfl
      simp only [List.getElem_toArray, List.getElem_cons_zero, List.getElem_cons_succ, Act.put, List.setIfInBounds_toArray, List.set_cons_zero, List.set_cons_succ]
      refine wpAnyH_take (i := 13) (v := ?_) rfl (by kernel_rfl) (by kernel_rfl) (by kernel_rfl) (fun _ _ _ h => h) (Or.inl ⟨by rfl, ?_⟩) hS ?_
      rotate_left 1
      · intro w hSw; (try dsimp only at hSw); go_simp <;> with_reducible rfl
      simp only [List.getElem_toArray, List.getElem_cons_zero, List.getElem_cons_succ, Act.put, List.setIfInBounds_toArray, List.set_cons_zero, List.set_cons_succ]
      refine wpAnyH_take (i := 14) (v := ?_) rfl (by kernel_rfl) (by kernel_rfl) (by kernel_rfl) (fun _ _ _ h => h) (Or.inl ⟨by rfl, ?_⟩) hS ?_
      rotate_left 1
      · intro w hSw; (try dsimp only at hSw); go_simp <;> with_reducible rfl
      simp only [List.getElem_toArray, List.getElem_cons_zero, List.getElem_cons_succ, Act.put, List.setIfInBounds_toArray, List.set_cons_zero, List.set_cons_succ]
      refine wpAnyH_ready (rs := [15]) (by kernel_rfl) (by simp) ?_
      refine AllReadyH.cons rfl (fun K hK => ?_) AllReadyH.nil
      go_simp
      have hbl : Below v0.heap.size v0 (v0.alloc (.cells #[.int .i64 y, .int .i64 (z + 1)] 23)) := (Below.refl _ _).alloc (Nat.le_refl _) _
      have HLi : Hid _ := HLit.out v0
      have HO2 : Hid _ := HO.out.later hbl
      have HB2 : Hid _ := HBd.out.trans (hbl.mono HBd.out.size)
      refine hK.out _ _ (HCell.out _ HB2.out) (fun hS => ?_)
      clear hK K HO HBd hbl
      generalize v0.alloc (.cells #[.int .i64 y, .int .i64 (z + 1)] 23) = v1 at *
      generalize v0.heap.size = gl at *
      refine wpAnyH_ready (rs := [16]) (by kernel_rfl) (by simp) ?_
      refine AllReadyH.cons rfl (fun K hK => ?_) AllReadyH.nil
      refine wp_app_dots _ _ rfl w1.heap.size _ acc rfl HO2.out (some ⟨gl, 0, none⟩) 1 [q] 1 rfl rfl HLi.out (by simp) (by omega) (by have := HAcc.out; simp; omega) HB2.out.size ?_
      intro v2 w2 hown2 hgrow2
      have HB3 : Hid (Below w1.heap.size w1 w2) := HB2.out.grown hgrow2 HB2.out.size (fun j hj => (HO2.out.lt j hj).1)
      have HO3 : Hid (DOwn w2 w1.heap.size v2 (acc ++ [q])) := hown2
      refine hK.out _ _ (HCell.out _ HB3.out) (fun hS => ?_)
      clear hK K hown2 hgrow2 HO2 HB2 HLi
      refine wpAnyH_take (i := 17) (v := ?_) rfl (by kernel_rfl) (by kernel_rfl) (by kernel_rfl) (fun _ _ _ h => h) (Or.inl ⟨by rfl, ?_⟩) hS ?_
      rotate_left 1
      · intro w hSw; (try dsimp only at hSw); go_simp <;> with_reducible rfl
      simp only [List.getElem_toArray, List.getElem_cons_zero, List.getElem_cons_succ, Act.put, List.setIfInBounds_toArray, List.set_cons_zero, List.set_cons_succ]
      refine wpAnyH_done (by kernel_rfl) ?_ _
      go_wp2
      go_roundw
      case rel => exact ⟨k + 1, acc ++ [q], by omega, by go_num, HO3.out, HRt2, HAc2.out, HB3.out⟩
      case measure => simp [intOf]; omega
    · have hkk : k = n := by omega
      have hdk : decide ((k : Int) < (n : Int)) = false := by simp; omega
      subst hkk
      obtain ⟨ao, c, rfl, hrow, hac, hcm, hnil⟩ := hO.dots
      have HSo : Hid _ := refDotSort_any ao acc c wr hrow hac hcm (by omega)
      have HB : Hid (Below W.heap.size W wr) := HB1.out.trans (hB.mono HB1.out.size)
      have HSr : Hid (DotMath.rises (DotMath.sort acc) = true) := rises_sort HRt.out
      have HSl : Hid ((DotMath.sort acc).length ≤ 100) := by show _ ≤ _; have := DotMath.sort_len acc; omega
      rw [hacc] at HSo hac ⊢
      clear hkn
      generalize DotMath.sort acc = so at *
      clear hO hB hrow hac hcm hnil HRt HX HB1 HAcc hacc
      go_wp2_with fail
      refine Calls.mono HSo.out ?_
      rintro r w2 ⟨v, rfl, hown, hb2⟩
      obtain ⟨ao2, c2, rfl, hrow2, hc2, hm2, hn2, ha2⟩ := own_addr hown
      have HR2 : Hid (DRow w2 ao2 so) := hrow2
      have HB2 : Hid (Below W.heap.size W w2) := HB.out.trans (hb2.mono HB.out.size)
      obtain ⟨m, hm⟩ : ∃ m, m = min so.length 17 := ⟨_, rfl⟩
      obtain ⟨m6, hm6⟩ : ∃ m6, m6 = min m 16 := ⟨_, rfl⟩
      have hcut1 : ∀ w', (Instr.sliceAt 25 (.slice ao2 so.length c2) none (some (.int .i64 (m : Int))) none).run Try.prog w' = .ok (.slice ao2 m c2) w' := fun w' => cut_head ha2 hn2 (by omega) hc2 w'
      have hcut2 : ∀ w', (Instr.sliceAt 25 (.slice ao2 m c2) none (some (.int .i64 (m6 : Int))) none).run Try.prog w' = .ok (.slice ao2 m6 c2) w' := fun w' => cut_head ha2 hn2 (by omega) (by omega) w'
      have hmin1 : min (so.length : Int) 17 = (m : Int) := by omega
      have hmin2 : min (m : Int) 16 = (m6 : Int) := by omega
      have HRt : Hid (∀ k, k ≤ 16 → (DotMath.put (so.take k)).length ≠ 0) := fun k hk h => (DotMath.put_nil _).1 h ⟨rises_take HSr.out k, by rw [List.length_take]; omega⟩
      have HD7 : Hid (∀ w, Below w2.heap.size w2 w → Dots w (.slice ao2 m c2) (so.take m)) := fun w hB => ⟨ao2, c2, by rw [List.length_take, Nat.min_eq_left (by omega)], (HR2.out.later hB).take m, by rw [List.length_take]; omega, hm2, hn2⟩
      have HD6 : Hid (∀ w, Below w2.heap.size w2 w → Dots w (.slice ao2 m6 c2) (so.take m6)) := fun w hB => ⟨ao2, c2, by rw [List.length_take, Nat.min_eq_left (by omega)], (HR2.out.later hB).take m6, by rw [List.length_take]; omega, hm2, hn2⟩
      have HP6 : Hid ((DotMath.put (so.take m6)).length ≠ 0) := HRt.out m6 (by omega)
      have HD02 : Hid (∀ w, Below w2.heap.size w2 w → Dots w (.slice a0 n0 cap0) ds) := fun w hB => HD0.out w (HB2.out.trans (hB.mono HB2.out.size))
      have HT2 : Hid (∀ w, Below w2.heap.size w2 w → Bytes w (.slice a2 L2 cap2) ts) := fun w hB => HT.out w (HB2.out.trans (hB.mono HB2.out.size))
      generalize so.length = ns at *
      generalize so.take m6 = s6 at *
      have HBG : Hid (Below w2.heap.size w2 (w2.alloc (.cells #[.slice a0 n0 cap0, .slice ao2 m c2, .slice ao2 m6 c2] 25))) := (Below.refl _ _).alloc (Nat.le_refl _) _
      have HG : Hid (Arr (w2.alloc (.cells #[.slice a0 n0 cap0, .slice ao2 m c2, .slice ao2 m6 c2] 25)) w2.heap.size 25 [.slice a0 n0 cap0, .slice ao2 m c2, .slice ao2 m6 c2]) := Arr.new w2 _ _ rfl
      clear hrow2 hc2 hm2 hn2 ha2 hown hb2 hm hm6 HSo HB HRt HR2 HD0 HT HSl hk hdk hc1 hbig0 hb0 hbig hbi
      go_wp2_with fail
      generalize w2.alloc (.cells #[.slice a0 n0 cap0, .slice ao2 m c2, .slice ao2 m6 c2] 25) = wc at *
      have HBW : Hid (Below W.heap.size W wc) := HB2.out.trans (HBG.out.mono HB2.out.size)
      have HV : Hid (∀ j, j < 3 → ∃ v l, wc.cell? ⟨w2.heap.size, j, none⟩ = some v ∧ Dots wc v l) := fun j hj => by
        match j, hj with
        | 0, _ => exact ⟨_, _, Arr.cell HG.out 0, HD02.out _ HBG.out⟩
        | 1, _ => exact ⟨_, _, Arr.cell HG.out 1, HD7.out _ HBG.out⟩
        | 2, _ => exact ⟨_, _, Arr.cell HG.out 2, HD6.out _ HBG.out⟩
      have HTc : Hid (∀ w, Below wc.heap.size wc w → Bytes w (.slice a2 L2 cap2) ts) := fun w hB => HT2.out w (HBG.out.trans (hB.mono HBG.out.size))
      have HDc : Hid (∀ w, Below wc.heap.size wc w → Dots w (.slice ao2 m6 c2) (s6)) := fun w hB => HD6.out w (HBG.out.trans (hB.mono HBG.out.size))
      clear HG HBG HD02 HD7 HD6 HT2 HB2
      generalize w2.heap.size = G at *
      go_loopw [64] (fun i wr => ∃ j : Nat, j ≤ 3 ∧ i = .int .i64 j ∧ Below wc.heap.size wc wr) (fun i _ => 3 - (intOf i).toNat)
      case atStart => exact ⟨0, by omega, rfl, Below.refl _ _⟩
      case round =>
        obtain ⟨j, hj, rfl, hB⟩ := hrel
        have HB : Hid (Below wc.heap.size wc wr) := hB
        clear hB
        by_cases hjn : j < 3
        · have hji : (j : Int) < 3 := by omega
          obtain ⟨v, l, hcell, hd⟩ := HV.out j hjn
          have hcw : wr.cell? ⟨G, j, none⟩ = some v := by rw [HB.out.cell (World.block_lt_of_cell? wc _ hcell)]; exact hcell
          obtain ⟨av, cv, rfl, hrow, hlc, hcm, hnn⟩ := hd
          have HPu : Hid (∀ w, Below wc.heap.size wc w → _) := fun w (hB : Below wc.heap.size wc w) => dotPut_all av l cv w (hrow.later hB) hlc hcm
          have HRu : Hid (∀ w, Below wc.heap.size wc w → _) := fun w (hB : Below wc.heap.size wc w) => refDotPut_any av l cv w (hrow.later hB) hlc hcm
          have HSm : Hid (∀ w, Below wc.heap.size wc w → ∀ ay cy, DRow w ay l → l.length ≤ cy → cy ≤ maxLen → Calls Try.prog 14 #[.slice ay l.length cy, .slice av l.length cv] w fun e w' => e = .returned (.bool true) ∧ Below w.heap.size w w') := fun w hB ay cy h1 h2 h3 => sameDots_any ay av cy cv l w h1 (hrow.later hB) h2 hlc h3 hcm
          have HPb : Hid (∀ c ∈ DotMath.put l, 0 ≤ c ∧ c ≤ 255) := DotMath.put_byte l
          have hpl := DotMath.put_len l
          have HBk : Hid ((DotMath.put l).length ≠ 0 → DotMath.all (DotMath.put l ++ ts) = (l, ((DotMath.put l).length : Int), 0)) := fun h => by
            by_cases hq : DotMath.rises l = true ∧ l.length ≤ 16
            · exact DotMath.all_back hq.1 hq.2 ts
            · exact absurd ((DotMath.put_nil l).2 hq) h
          generalize DotMath.put l = pz at *
          obtain ⟨lv, hlv⟩ : ∃ n, n = l.length := ⟨_, rfl⟩
          rw [← hlv] at HPu HRu HSm hcw
          have HLv : Hid (lv = l.length) := hlv
          clear hcell hrow hlc hcm hnn hlv
          go_wp2_with fail
          refine Calls.mono (HPu.out _ HB.out) ?_
          rintro r w5 ⟨p, rfl, hp, hb5⟩
          obtain ⟨ap, lp, cp, rfl, hlp, hp2⟩ := bytes_form hp
          have HLp : Hid (lp = pz.length) := hlp
          have HP : Hid (Bytes w5 (.slice ap lp cp) pz) := hp2
          have HB5 : Hid (Below wc.heap.size wc w5) := HB.out.trans (hb5.mono HB.out.size)
          clear hb5 hp hp2 hlp HB hcw HPu
          go_upto_region 16 with (fail)
          have HPd : Hid (Bytes w5.drew (.slice ap lp cp) pz) := bytes_drew HP.out
          have HBd : Hid (Below wc.heap.size wc w5.drew) := HB5.out.drew
          have xp := bytes_text HPd.out
          refine wp_region_held_drew (S := fun w' => (convert 34 9 (.slice ap lp cp)).run Try.prog w' = .ok (.string (strOfNums pz)) w') (by kernel_rfl) xp (fun hS => ?_)
          clear HP HB5 xp
          generalize w5.drew = v0 at *
          refine wpAnyH_take (i := 0) (v := ?_) rfl (by kernel_rfl) (by kernel_rfl) (by kernel_rfl) (fun _ _ _ h => h) (Or.inl ⟨by rfl, ?_⟩) hS ?_
          rotate_left 1
          · intro w hSw; (try dsimp only at hSw); go_simp <;> with_reducible rfl
          simp only [List.getElem_toArray, List.getElem_cons_zero, List.getElem_cons_succ, Act.put, List.setIfInBounds_toArray, List.set_cons_zero, List.set_cons_succ]
          refine wpAnyH_take (i := 1) (v := ?_) rfl (by kernel_rfl) (by kernel_rfl) (by kernel_rfl) (fun _ _ _ h => h) (Or.inl ⟨by rfl, ?_⟩) hS ?_
          rotate_left 1
          · intro w hSw; (try dsimp only at hSw); go_simp <;> with_reducible rfl
          simp only [List.getElem_toArray, List.getElem_cons_zero, List.getElem_cons_succ, Act.put, List.setIfInBounds_toArray, List.set_cons_zero, List.set_cons_succ]
          refine wpAnyH_take (i := 2) (v := ?_) rfl (by kernel_rfl) (by kernel_rfl) (by kernel_rfl) (fun _ _ _ h => h) (Or.inl ⟨by rfl, ?_⟩) hS ?_
          rotate_left 1
          · intro w hSw; (try dsimp only at hSw); go_simp <;> with_reducible rfl
          simp only [List.getElem_toArray, List.getElem_cons_zero, List.getElem_cons_succ, Act.put, List.setIfInBounds_toArray, List.set_cons_zero, List.set_cons_succ]
          refine wpAnyH_ready (rs := [3]) (by kernel_rfl) (by simp) ?_
          refine AllReadyH.cons rfl (fun K hK => ?_) AllReadyH.nil
          go_simp
          refine Calls.mono (HRu.out _ HBd.out) ?_
          rintro r v1 ⟨x2, rfl, hby2, hbx⟩
          have HBe : Hid (Below wc.heap.size wc v1) := HBd.out.trans (hbx.mono HBd.out.size)
          have HPe : Hid (Bytes v1 (.slice ap lp cp) pz) := bytes_later HPd.out hbx
          refine hK.out _ _ (bytes_text HPe.out) (fun hS => ?_)
          clear hK K hbx HPd HBd HRu
          have hst := bytes_text hby2
          clear hby2
          refine wpAnyH_weaken (S2 := fun w' => (convert 34 9 (.slice ap lp cp)).run Try.prog w' = .ok (.string (strOfNums pz)) w' ∧ (convert 34 9 x2).run Try.prog w' = .ok (.string (strOfNums pz)) w') (fun w h => h.1) _ _ _ _ ?_
          have hS : _ := And.intro hS hst
          have heq2 : ((strOfNums pz).toList == (strOfNums pz).toList) = true := by simp
          refine wpAnyH_take (i := 4) (v := ?_) rfl (by kernel_rfl) (by kernel_rfl) (by kernel_rfl) (fun _ _ _ h => h) (Or.inl ⟨by rfl, ?_⟩) hS ?_
          rotate_left 1
          · intro w hSw; (try dsimp only at hSw); go_simp <;> with_reducible rfl
          simp only [List.getElem_toArray, List.getElem_cons_zero, List.getElem_cons_succ, Act.put, List.setIfInBounds_toArray, List.set_cons_zero, List.set_cons_succ]
          refine wpAnyH_take (i := 5) (v := ?_) rfl (by kernel_rfl) (by kernel_rfl) (by kernel_rfl) (fun _ _ _ h => h) (Or.inl ⟨by rfl, ?_⟩) hS ?_
          rotate_left 1
          · intro w hSw; (try dsimp only at hSw); go_simp <;> with_reducible rfl
          simp only [List.getElem_toArray, List.getElem_cons_zero, List.getElem_cons_succ, Act.put, List.setIfInBounds_toArray, List.set_cons_zero, List.set_cons_succ]
          refine wpAnyH_done (by kernel_rfl) ?_ _
          clear hS hst heq2
          by_cases h0 : lp = 0
          · have hl0 : ((lp : Int) == 0) = true := by simp; omega
            go_wp2
            go_roundw
            case rel => exact ⟨j + 1, by omega, by go_num, HBe.out⟩
            case measure => simp [intOf]; omega
          · have hl0 : ((lp : Int) == 0) = false := by simp; omega
            have HBk2 : Hid (DotMath.all (pz ++ ts) = (l, (lp : Int), 0)) := by rw [HLp.out]; exact HBk.out (by rw [← HLp.out]; exact h0)
            have HTe : Hid (Bytes v1 (.slice a2 L2 cap2) ts) := HTc.out _ HBe.out
            clear HBk
            go_wp2_with (first
              | (at_builtin; refine wpList_app_bytes rfl (.const (.slice none 0 0)) (.tmp 80) rfl v1.heap.size (.slice none 0 0) [] rfl (BOwn.nil _ _) (.slice ap lp cp) pz rfl HPe.out (by simp; omega) (Nat.le_refl _) ?_; intro v5 w5 hown5 hgrow5; rw [List.nil_append] at hown5; have HO5 : Hid (BOwn w5 v1.heap.size v5 pz) := hown5; have HL5 : Hid (Below v1.heap.size v1 w5) := (Below.refl _ _).grown hgrow5 (Nat.le_refl _) (fun k hk => by cases hk); clear hown5 hgrow5)
              | (at_builtin; refine wpList_app_bytes rfl (.tmp 81) (.tmp 82) rfl v1.heap.size v5 pz rfl HO5.out (.slice a2 L2 cap2) ts rfl (bytes_later HTe.out HL5.out) (by have := HTl.out; omega) HL5.out.size ?_; intro v6 w6 hown6 hgrow6; have HL6 : Hid (Below v1.heap.size v1 w6) := HL5.out.grown hgrow6 HL5.out.size (fun k hk => HO5.out.ge k hk); have hy6 := bytes_of_own hown6 (fun c hc => (List.mem_append.1 hc).elim (HPb.out c) (HTb.out c)); obtain ⟨a6, l6, c6, rfl, hl6, h6⟩ := bytes_form hy6; have HY6 : Hid (Bytes w6 (.slice a6 l6 c6) (pz ++ ts)) := h6; clear hl6 h6 hy6 hown6 hgrow6 HO5 HL5))
            have HTk : Hid (Calls Try.prog 24 #[.slice a6 l6 c6] w6 fun e w' => ∃ v, e = .returned (.tuple #[v, .int .i64 (lp : Int), .int .i64 0]) ∧ Dots w' v l ∧ Below w6.heap.size w6 w') := by
              obtain ⟨_, _, hv, hrow, hbb, hcc, hmm, _⟩ := HY6.out
              simp only [Value.slice.injEq] at hv
              obtain ⟨rfl, rfl, rfl⟩ := hv
              have := dotTakeAll_any _ _ _ w6 hrow hbb hcc hmm
              rw [HBk2.out] at this
              exact this
            have HB6 : Hid (Below wc.heap.size wc w6) := HBe.out.trans (HL6.out.mono HBe.out.size)
            clear HY6 HL6 HTe HBe HPe HBk2
            refine Calls.mono HTk.out ?_
            rintro r w7 ⟨y, rfl, hd7, hb7⟩
            obtain ⟨ay, cy, rfl, hry, hcy, hmy, _⟩ := hd7
            have HB7 : Hid (Below wc.heap.size wc w7) := HB6.out.trans (hb7.mono HB6.out.size)
            have HS7 : Hid _ := HSm.out w7 HB7.out ay cy hry (by rw [HLv.out]; exact hcy) hmy
            rw [← HLv.out]
            clear hb7 hry hcy hmy HB6 HTk
            go_wp2_with fail
            refine Calls.mono HS7.out ?_
            rintro r w8 ⟨rfl, hb8⟩
            have HB8 : Hid (Below wc.heap.size wc w8) := HB7.out.trans (hb8.mono HB7.out.size)
            clear hb8 HS7 HB7
            go_wp2
            go_roundw
            case rel => exact ⟨j + 1, by omega, by go_num, HB8.out⟩
            case measure => simp [intOf]; omega
        · have hjk : j = 3 := by omega
          have hdj : decide ((j : Int) < 3) = false := by simp; omega
          have HBf : Hid (Below W.heap.size W wr) := HBW.out.trans (HB.out.mono HBW.out.size)
          have HPf : Hid (Calls Try.prog 22 #[.slice ao2 m6 c2] wr fun e w' => ∃ v, e = .returned v ∧ Bytes w' v (DotMath.put (s6)) ∧ Below wr.heap.size wr w') := by
            obtain ⟨_, _, hv, hrow, hlc, hcm, _⟩ := HDc.out _ HB.out
            simp only [Value.slice.injEq] at hv
            obtain ⟨rfl, hl, rfl⟩ := hv
            rw [hl]
            exact dotPut_all _ (s6) _ wr hrow hlc hcm
          clear HB HV HTc HDc HBW
          go_wp2_with fail
          refine Calls.mono HPf.out ?_
          rintro r w9 ⟨p, rfl, hp, hb9⟩
          obtain ⟨ap, lp, cp, rfl, hlp, _⟩ := bytes_form hp
          have hp0 : decide (0 < lp) = true := decide_eq_true (by have := HP6.out; omega)
          have HB9 : Hid (Below W.heap.size W w9) := HBf.out.trans (hb9.mono HBf.out.size)
          clear hb9 hp hlp
          go_wp2
          go_ret
          exact ⟨rfl, HB9.out⟩
end Go.Proofs.Ytehaeepihjookaa

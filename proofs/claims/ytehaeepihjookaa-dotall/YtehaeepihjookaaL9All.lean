/-
  Walk of newsreellaw9.DotAll.
-/
import Derived.Test.YtehaeepihjookaaL9Known
import Derived.Test.YtehaeepihjookaaL9Order
import Derived.Test.YtehaeepihjookaaFnChanged
namespace Go.Proofs.Ytehaeepihjookaa
open Go.RowKit NumMath
open DotMath (Dt)
set_option maxRecDepth 100000
set_option linter.unusedVariables false
set_option linter.unusedSimpArgs false

theorem arr_kept {w w' : World} {g t : Nat} {l : List Value} {row : Option Nat} (h : Arr w g t l) (hg : w.grownBy w' row) (hr : row ≠ some g) : Arr w' g t l := by
  unfold Arr
  rw [hg.block g h.lt (fun e => hr e.symm)]
  exact h
theorem row_arr {w : World} {g t : Nat} {k : IntKind} {xs : List Int} (h : Arr w g t (xs.map (Value.int k))) : Row k w (some ⟨g, 0, none⟩) xs := by
  refine .inr ⟨g, 0, rfl, fun i hi => ?_⟩
  rw [Nat.zero_add, Arr.cell h i]
  simp [hi]
theorem bytes_of_own {w : World} {base : Nat} {v : Value} {zs : List Int} (h : BOwn w base v zs) (hb : ∀ c ∈ zs, 0 ≤ c ∧ c ≤ 255) : Bytes w v zs := own_bytes h.own hb
/-- Put, of whatever bytes that lie somewhere and one number. -/
theorem refPut_on (v : Value) (zs : List Int) (g : Nat) (n : Int) (w : World) (hv : Bytes w v zs) (hg : Arr w g 38 [.int .u64 n]) (h0 : 0 ≤ n) (h1 : n ≤ 18446744073709551615) (hl : zs.length ≤ 1000000) :
    Calls Try.prog 19 #[v, .slice (some ⟨g, 0, none⟩) 1 1] w fun e w' => ∃ v', e = .returned v' ∧ BOwn w' w.heap.size v' (zs ++ D n) ∧ (∀ c ∈ zs ++ D n, 0 ≤ c ∧ c ≤ 255) ∧ Below w.heap.size w w' := by
  obtain ⟨a, c, rfl, hr, hb, hc, hm, hn⟩ := hv
  refine (refPut_any a (some ⟨g, 0, none⟩) zs [n] c 1 w hr hc hm hn (row_arr (xs := [n]) hg) (by simp; omega) (by simp) (by decide) (by simp; omega)).mono ?_
  rintro e w' ⟨v', rfl, hown, hbl⟩
  rw [List.flatMap_cons, List.flatMap_nil, List.append_nil] at hown
  refine ⟨v', rfl, ⟨hown⟩, fun c hc => ?_, hbl⟩
  rcases List.mem_append.1 hc with hc | hc
  · exact hb c hc
  · exact D_byte h0 h1 c hc
theorem wp_app_bytes {o : Oper} {a : Act} {w : World} {K : Act → World → Prop} {Q : Exit → Act → World → Prop} (s x : Operand) (ho : o.op = .call { callee := .builtin .append, args := #[s, x], argTypes := #[34, 34] })
    (base : Nat) (v : Value) (zs : List Int) (hs : a.eval s = v) (hown : BOwn w base v zs) (g : Nat) (ys : List Int) (n : Nat) (hn : n = ys.length) (hx : a.eval x = .slice (some ⟨g, 0, none⟩) n n) (hy : Arr w g 5 (ys.map (Value.int .u8))) (hl : zs.length + ys.length ≤ 140737488355328) (hbase : base ≤ w.heap.size)
    (h : ∀ v' w', BOwn w' base v' (zs ++ ys) → w.grownBy w' v.ownBlock → K (a.put o.dst v') w') : o.wp Try.prog a w K Q := by
  subst hn
  obtain ⟨i0, hi, hz0, hz1, hz2⟩ := info_parts Try.info5
  refine wp_append_own w s x 34 ho base 5 i0 (.int .u8 0) 1 1 Try.underlying34 hi hz0 hz1 hz2 rfl (by decide) v zs.length (zs.map (Value.int .u8)) hs hown.own ⟨g, 0, none⟩ ys.length ys.length (ys.map (Value.int .u8)) hx (by simp) ((row_arr (xs := ys) hy).news _ rfl) (ints_oneCell _ _) (by unfold maxLen; omega) (by omega) hbase ?_
  intro v' w' h1 h2 _
  refine h v' w' ⟨?_⟩ h2
  rw [List.length_append, List.map_append]; exact h1

theorem own_byte (w : World) (q : Int) : BOwn (w.alloc (.cells #[.int .u8 q] 5)) w.heap.size (.slice (some ⟨w.heap.size, 0, none⟩) 1 1) [q] :=
  ⟨⟨rfl, .inr ⟨w.heap.size, 1, #[.int .u8 q], rfl, Nat.le_refl _, Arr.new w 5 [.int .u8 q] rfl, by simp, by decide, rfl, rfl⟩⟩⟩

set_option maxHeartbeats 32000000 in
theorem dotAll_walk (a0 : Option Addr) (zs : List Int) (cap0 : Nat) (a1 : Option Addr) (xs1 : List Int) (cap1 : Nat) (n2 n3 n4 : Int) (W : World)
    (hr0 : Row .u8 W a0 zs) (hc0 : zs.length ≤ cap0) (hm0 : cap0 ≤ maxLen) (hn0 : a0 = none → cap0 = 0) (hw0 : ∀ n ∈ zs, (Lit.int .u8 n).wf = true) (hs0 : cap0 * 1 ≤ 140737488351232)
    (hr1 : Row .u16 W a1 xs1) (hc1 : xs1.length ≤ cap1) (hm1 : cap1 ≤ maxLen) (hn1 : a1 = none → cap1 = 0) (hw1 : ∀ n ∈ xs1, (Lit.int .u16 n).wf = true) (hs1 : cap1 * 2 ≤ 140737488351232)
    (w2 : (Lit.int .i64 n2).wf = true) (w3 : (Lit.int .u8 n3).wf = true) (w4 : (Lit.int .u8 n4).wf = true) :
    Calls Try.prog 7 #[.slice a0 zs.length cap0, .slice a1 xs1.length cap1, .int .i64 n2, .int .u8 n3, .int .u8 n4] W fun r W' => r = .returned (.bool true) ∧ Below W.heap.size W W' := by
  have hb2 := bounds_i64 w2
  have hb3 := bounds_u8 w3
  have hb4 := bounds_u8 w4
  have hzb : ∀ c ∈ zs, 0 ≤ c ∧ c ≤ 255 := fun c hc => bounds_u8 (hw0 c hc)
  have hxb : ∀ c ∈ xs1, 0 ≤ c ∧ c ≤ 65535 := fun c hc => bounds_u16 (hw1 c hc)
  have HKn : Hid (∀ w, _) := fun w => known_any w
  have HZ : Hid (∀ w, Below W.heap.size W w → Bytes w (.slice a0 zs.length cap0) zs) := fun w hB => ⟨a0, cap0, rfl, hr0.later hB, hzb, hc0, hm0, hn0⟩
  have HX : Hid (∀ k, k < xs1.length → ∀ w, Below W.heap.size W w → ∃ b off, a1 = some ⟨b, off, none⟩ ∧ ∃ c : Int, 0 ≤ c ∧ c ≤ 65535 ∧ w.cell? ⟨b, off + k, none⟩ = some (.int .u16 c)) := fun k hk w hB => by
    rcases hr1.later hB with h | ⟨b, off, ha, hc⟩
    · rw [h] at hk; simp at hk
    · have := hxb _ (mem_getD xs1 k hk)
      exact ⟨b, off, ha, _, this.1, this.2, hc k hk⟩
  obtain ⟨L, hL⟩ : ∃ L, L = zs.length := ⟨_, rfl⟩
  obtain ⟨n, hn⟩ : ∃ n, n = xs1.length := ⟨_, rfl⟩
  rw [← hL] at hc0 HZ ⊢
  rw [← hn] at hc1 HX ⊢
  have HL : Hid (L = zs.length) := hL
  unfold maxLen at hm1
  have hL47 : L ≤ 140737488351232 := by omega
  clear hr0 hm0 hn0 hw0 hr1 hn1 hw1 w2 w3 w4 hzb hxb hL hn
  go_enter Try.func7, Try.ntmps7
  go_wp2_with fail
  refine Calls.mono (HKn.out _) ?_
  rintro r w1 ⟨rfl, hb1⟩
  have HB1 : Hid (Below W.heap.size W w1) := hb1
  clear hb1 HKn
  by_cases hbig : 20 < n
  · have hbi : (20 : Int) < (n : Int) := by omega
    go_wp2
    go_ret
    exact ⟨rfl, HB1.out⟩
  have hbi : (n : Int) ≤ 20 := by omega
  go_wp2
  go_loopw [11, 12] (fun v i wr => ∃ (k : Nat) (ps : List Int), k ≤ n ∧ i = .int .i64 k ∧ BOwn wr w1.heap.size v ps ∧ (∀ c ∈ ps, 0 ≤ c ∧ c ≤ 255) ∧ ps.length ≤ 11 * k ∧ Below w1.heap.size w1 wr) (fun _ i _ => n - (intOf i).toNat)
  case atStart => exact ⟨0, [], by omega, rfl, BOwn.nil _ _, by simp, by simp, Below.refl _ _⟩
  case round =>
    obtain ⟨k, ps, hk, rfl, hO, hpb, hpl, hB⟩ := hrel
    have HPb : Hid (∀ c ∈ ps, 0 ≤ c ∧ c ≤ 255) := hpb
    clear hpb
    by_cases hkn : k < n
    · have hki : (k : Int) < (n : Int) := by omega
      have hkc : (k : Int) < (cap1 : Int) := by omega
      obtain ⟨ap, cp, rfl, _, _, _, _, _⟩ := bytes_of_own hO HPb.out
      have HO : Hid (BOwn wr.drew w1.heap.size (.slice ap ps.length cp) ps) := ⟨hO.own⟩
      have HB : Hid (Below w1.heap.size w1 wr) := hB
      clear hO hB
      obtain ⟨b, off, rfl, c, hc0', hc1', p0⟩ := HX.out k hkn wr (HB1.out.trans (HB.out.mono HB1.out.size))
      have hblk : b < w1.heap.size := by
        obtain ⟨b', off', ha, c', _, _, hc'⟩ := HX.out k hkn w1 HB1.out
        have hbb : b = b' := by simpa using congrArg (fun x : Option Addr => x.map (·.block)) ha
        rw [hbb]
        exact World.block_lt_of_cell? w1 _ hc'
      obtain ⟨y, hy⟩ : ∃ y : Int, y = c % 66 := ⟨_, rfl⟩
      obtain ⟨z, hz⟩ : ∃ z : Int, z = c / 66 := ⟨_, rfl⟩
      have hyb : 0 ≤ y ∧ y < 66 := by omega
      have hzb : 0 ≤ z ∧ z ≤ 1000 := by omega
      have e1 : c.tmod 66 = y := by rw [Int.tmod_eq_emod_of_nonneg (by omega)]; exact hy.symm
      have e2 : IntKind.u8.wrap y = y := by rw [IntKind.wrap_u8]; omega
      have e3 : IntKind.u16.wrap (c.tdiv 66) = z := by rw [Int.tdiv_eq_ediv_of_nonneg (by omega)]; simp [IntKind.wrap, IntKind.bits, IntKind.signed]; omega
      have e4 : IntKind.u64.wrap z = z := by rw [IntKind.wrap_u64]; omega
      clear hy hz
      go_upto_region 9 with (fail)
      have HBd : Hid (Below w1.heap.size w1 wr.drew) := HB.out.drew
      clear HB
      refine wp_region_held_drew (S := fun w' => w'.cell? ⟨b, off + k, none⟩ = some (.int .u16 c)) (by kernel_rfl) p0 (fun hS => ?_)
      clear p0
      generalize wr.drew = v0 at *
      obtain ⟨N0, hN0⟩ : ∃ N, N = v0.heap.size := ⟨_, rfl⟩
      have HLt0 : Hid (∀ j, (Value.slice ap ps.length cp).ownBlock = some j → j < N0) := fun j hj => by rw [hN0]; exact (HO.out.own.lt j hj).2
      have hN1 : w1.heap.size ≤ N0 := by rw [hN0]; exact HBd.out.size
      have hN : N0 ≤ v0.heap.size := by omega
      clear hN0
      have HCell : Hid (∀ w', Below w1.heap.size w1 w' → w'.cell? ⟨b, off + k, none⟩ = some (.int .u16 c)) := fun w' hB => by
        rw [hB.cell hblk, ← HBd.out.cell hblk]
        exact hS
      refine wpAnyH_take (i := 0) (v := ?_) rfl (by kernel_rfl) (by kernel_rfl) (by kernel_rfl) (fun _ _ _ h => h) (Or.inl ⟨by rfl, ?_⟩) hS ?_
      rotate_left 1
      · intro w hSw; (try dsimp only at hSw); go_simp <;> with_reducible rfl
      simp only [List.getElem_toArray, List.getElem_cons_zero, List.getElem_cons_succ, Act.put, List.setIfInBounds_toArray, List.set_cons_zero, List.set_cons_succ]
      refine wpAnyH_take (i := 1) (v := ?_) rfl (by kernel_rfl) (by kernel_rfl) (by kernel_rfl) (fun _ _ _ h => h) (Or.inl ⟨by rfl, ?_⟩) hS ?_
      rotate_left 1
      · intro w hSw; (try dsimp only at hSw); go_simp <;> with_reducible rfl
      simp only [List.getElem_toArray, List.getElem_cons_zero, List.getElem_cons_succ, Act.put, List.setIfInBounds_toArray, List.set_cons_zero, List.set_cons_succ]
      refine wpAnyH_take (i := 2) (v := ?_) rfl (by kernel_rfl) (by kernel_rfl) (by kernel_rfl) (fun _ _ _ h => h) (Or.inl ⟨by rfl, ?_⟩) hS ?_
      rotate_left 1
      · intro w hSw; (try dsimp only at hSw); go_simp <;> with_reducible rfl
      simp only [List.getElem_toArray, List.getElem_cons_zero, List.getElem_cons_succ, Act.put, List.setIfInBounds_toArray, List.set_cons_zero, List.set_cons_succ]
      refine wpAnyH_take (i := 3) (v := ?_) rfl (by kernel_rfl) (by kernel_rfl) (by kernel_rfl) (fun _ _ _ h => h) (Or.inl ⟨by rfl, ?_⟩) hS ?_
      rotate_left 1
      · intro w hSw; (try dsimp only at hSw); go_simp <;> with_reducible rfl
      simp only [List.getElem_toArray, List.getElem_cons_zero, List.getElem_cons_succ, Act.put, List.setIfInBounds_toArray, List.set_cons_zero, List.set_cons_succ]
      refine wpAnyH_take (i := 4) (v := ?_) rfl (by kernel_rfl) (by kernel_rfl) (by kernel_rfl) (fun _ _ _ h => h) (Or.inl ⟨by rfl, ?_⟩) hS ?_
      rotate_left 1
      · intro w hSw; (try dsimp only at hSw); go_simp <;> with_reducible rfl
      simp only [List.getElem_toArray, List.getElem_cons_zero, List.getElem_cons_succ, Act.put, List.setIfInBounds_toArray, List.set_cons_zero, List.set_cons_succ]
      refine wpAnyH_take (i := 5) (v := ?_) rfl (by kernel_rfl) (by kernel_rfl) (by kernel_rfl) (fun _ _ _ h => h) (Or.inl ⟨by rfl, ?_⟩) hS ?_
      rotate_left 1
      · intro w hSw; (try dsimp only at hSw); go_simp <;> with_reducible rfl
      simp only [List.getElem_toArray, List.getElem_cons_zero, List.getElem_cons_succ, Act.put, List.setIfInBounds_toArray, List.set_cons_zero, List.set_cons_succ]
      refine wpAnyH_take (i := 6) (v := ?_) rfl (by kernel_rfl) (by kernel_rfl) (by kernel_rfl) (fun _ _ _ h => h) (Or.inl ⟨by rfl, ?_⟩) hS ?_
      rotate_left 1
      · intro w hSw; (try dsimp only at hSw); go_simp <;> with_reducible rfl
      simp only [List.getElem_toArray, List.getElem_cons_zero, List.getElem_cons_succ, Act.put, List.setIfInBounds_toArray, List.set_cons_zero, List.set_cons_succ]
      refine wpAnyH_take (i := 9) (v := ?_) rfl (by kernel_rfl) (by kernel_rfl) (by kernel_rfl) (fun _ _ _ h => h) (Or.inl ⟨by rfl, ?_⟩) hS ?_
      rotate_left 1
      · intro w hSw; (try dsimp only at hSw); go_simp <;> with_reducible rfl
      simp only [List.getElem_toArray, List.getElem_cons_zero, List.getElem_cons_succ, Act.put, List.setIfInBounds_toArray, List.set_cons_zero, List.set_cons_succ]
      refine wpAnyH_take (i := 10) (v := ?_) rfl (by kernel_rfl) (by kernel_rfl) (by kernel_rfl) (fun _ _ _ h => h) (Or.inl ⟨by rfl, ?_⟩) hS ?_
      rotate_left 1
      · intro w hSw; (try dsimp only at hSw); go_simp <;> with_reducible rfl
      simp only [List.getElem_toArray, List.getElem_cons_zero, List.getElem_cons_succ, Act.put, List.setIfInBounds_toArray, List.set_cons_zero, List.set_cons_succ]
      refine wpAnyH_take (i := 11) (v := ?_) rfl (by kernel_rfl) (by kernel_rfl) (by kernel_rfl) (fun _ _ _ h => h) (Or.inl ⟨by rfl, ?_⟩) hS ?_
      rotate_left 1
      · intro w hSw; (try dsimp only at hSw); go_simp <;> with_reducible rfl
      simp only [List.getElem_toArray, List.getElem_cons_zero, List.getElem_cons_succ, Act.put, List.setIfInBounds_toArray, List.set_cons_zero, List.set_cons_succ]
      refine wpAnyH_take (i := 12) (v := ?_) rfl (by kernel_rfl) (by kernel_rfl) (by kernel_rfl) (fun _ _ _ h => h) (Or.inl ⟨by rfl, ?_⟩) hS ?_
      rotate_left 1
      · intro w hSw; (try dsimp only at hSw); go_simp <;> with_reducible rfl
      simp only [List.getElem_toArray, List.getElem_cons_zero, List.getElem_cons_succ, Act.put, List.setIfInBounds_toArray, List.set_cons_zero, List.set_cons_succ]
      refine wpAnyH_take (i := 13) (v := ?_) rfl (by kernel_rfl) (by kernel_rfl) (by kernel_rfl) (fun _ _ _ h => h) (Or.inl ⟨by rfl, ?_⟩) hS ?_
      rotate_left 1
      · intro w hSw; (try dsimp only at hSw); go_simp <;> with_reducible rfl
      simp only [List.getElem_toArray, List.getElem_cons_zero, List.getElem_cons_succ, Act.put, List.setIfInBounds_toArray, List.set_cons_zero, List.set_cons_succ]
      refine wpAnyH_take (i := 14) (v := ?_) rfl (by kernel_rfl) (by kernel_rfl) (by kernel_rfl) (fun _ _ _ h => h) (Or.inl ⟨by rfl, ?_⟩) hS ?_
      rotate_left 1
      · intro w hSw; (try dsimp only at hSw); go_simp <;> with_reducible rfl
      simp only [List.getElem_toArray, List.getElem_cons_zero, List.getElem_cons_succ, Act.put, List.setIfInBounds_toArray, List.set_cons_zero, List.set_cons_succ]
      have HPy : Hid (∀ c ∈ ps ++ [y], 0 ≤ c ∧ c ≤ 255) := fun c hc => by
        rcases List.mem_append.1 hc with hc | hc
        · exact HPb.out c hc
        · simp at hc; omega
      refine wpAnyH_ready (rs := [7, 15]) (by kernel_rfl) (by simp) ?_
      refine AllReadyH.cons rfl (fun K hK => ?_) (AllReadyH.cons rfl (fun K hK => ?_) (AllReadyH.nil))
      · go_simp
        have HNv1 : Hid (Arr (v0.alloc (.cells #[.int .u8 y] 5)) v0.heap.size 5 [.int .u8 y]) := Arr.new v0 5 [.int .u8 y] rfl
        have HOv1 : Hid (BOwn (v0.alloc (.cells #[.int .u8 y] 5)) w1.heap.size (.slice ap ps.length cp) ps) := ⟨World.ownsRow.alloc HO.out.own _⟩
        have HWv1 : Hid (Below w1.heap.size w1 (v0.alloc (.cells #[.int .u8 y] 5))) := HBd.out.alloc HBd.out.size _
        refine hK.out _ _ (HCell.out _ HWv1.out) (fun hS => ?_)
        have hgv1 : N0 ≤ v0.heap.size := hN
        have hMv1 : N0 ≤ (v0.alloc (.cells #[.int .u8 y] 5)).heap.size := by simp; omega
        clear hK K HO HBd hN
        generalize v0.alloc (.cells #[.int .u8 y] 5) = v1 at *
        generalize v0.heap.size = gl7 at *
        have HBd : Hid _ := HWv1.out
        have hN : N0 ≤ v1.heap.size := hMv1
        clear HWv1 hMv1
        refine wpAnyH_ready (rs := [8, 15]) (by kernel_rfl) (by simp) ?_
        refine AllReadyH.cons rfl (fun K hK => ?_) (AllReadyH.cons rfl (fun K hK => ?_) (AllReadyH.nil))
        · refine wp_app_bytes _ _ rfl w1.heap.size _ ps rfl HOv1.out gl7 [y] 1 rfl rfl HNv1.out (by simp; omega) HBd.out.size ?_
          intro x8 v2 hown hgrow
          have HOv2 : Hid (BOwn v2 w1.heap.size x8 (ps ++ [y])) := hown
          have HWv2 : Hid (Below w1.heap.size w1 v2) := HBd.out.grown hgrow HBd.out.size HOv1.out.ge
          have hMv2 : N0 ≤ v2.heap.size := by have := hgrow.size; omega
          refine hK.out _ _ (HCell.out _ HWv2.out) (fun hS => ?_)
          clear hK K hown hgrow HOv1 HNv1 HBd hN
          have HBd : Hid _ := HWv2.out
          have hN : N0 ≤ v2.heap.size := hMv2
          clear HWv2 hMv2
          refine wpAnyH_ready (rs := [15]) (by kernel_rfl) (by simp) ?_
          refine AllReadyH.cons rfl (fun K hK => ?_) (AllReadyH.nil)
          go_simp
          have HNv3 : Hid (Arr (v2.alloc (.cells #[.int .u64 z] 38)) v2.heap.size 38 [.int .u64 z]) := Arr.new v2 38 [.int .u64 z] rfl
          have HOv3 : Hid (BOwn (v2.alloc (.cells #[.int .u64 z] 38)) w1.heap.size x8 (ps ++ [y])) := ⟨World.ownsRow.alloc HOv2.out.own _⟩
          have HWv3 : Hid (Below w1.heap.size w1 (v2.alloc (.cells #[.int .u64 z] 38))) := HBd.out.alloc HBd.out.size _
          refine hK.out _ _ (HCell.out _ HWv3.out) (fun hS => ?_)
          have hgv3 : N0 ≤ v2.heap.size := hN
          have hMv3 : N0 ≤ (v2.alloc (.cells #[.int .u64 z] 38)).heap.size := by simp; omega
          clear hK K HOv2 HBd hN
          generalize v2.alloc (.cells #[.int .u64 z] 38) = v3 at *
          generalize v2.heap.size = gl15 at *
          have HBd : Hid _ := HWv3.out
          have hN : N0 ≤ v3.heap.size := hMv3
          clear HWv3 hMv3
          refine wpAnyH_ready (rs := [16]) (by kernel_rfl) (by simp) ?_
          refine AllReadyH.cons rfl (fun K hK => ?_) (AllReadyH.nil)
          go_simp
          refine Calls.mono (refPut_on x8 (ps ++ [y]) gl15 z _ (bytes_of_own HOv3.out HPy.out) HNv3.out hzb.1 (by omega) (by simp; omega)) ?_
          rintro r v4 ⟨x16, rfl, hown, hbb, hbx⟩
          have HO9 : Hid (BOwn v4 w1.heap.size x16 ((ps ++ [y]) ++ D z)) := ⟨own_low hown.own HBd.out.size⟩
          have HP9 : Hid _ := hbb
          have HB9 : Hid (Below w1.heap.size w1 v4) := HBd.out.trans (hbx.mono HBd.out.size)
          refine hK.out _ _ (HCell.out _ HB9.out) (fun hS => ?_)
          clear hK K hown hbb hbx HOv3 HNv3 HBd
          refine wpAnyH_take (i := 17) (v := ?_) rfl (by kernel_rfl) (by kernel_rfl) (by kernel_rfl) (fun _ _ _ h => h) (Or.inl ⟨by rfl, ?_⟩) hS ?_
          rotate_left 1
          · intro w hSw; (try dsimp only at hSw); go_simp <;> with_reducible rfl
          simp only [List.getElem_toArray, List.getElem_cons_zero, List.getElem_cons_succ, Act.put, List.setIfInBounds_toArray, List.set_cons_zero, List.set_cons_succ]
          refine wpAnyH_done (by kernel_rfl) ?_ _
          go_wp2
          go_roundw
          case rel => exact ⟨k + 1, (ps ++ [y]) ++ D z, by omega, by go_num, HO9.out, HP9.out, by have := D_len z; simp; omega, HB9.out⟩
          case measure => simp [intOf]; omega
        · go_simp
          have HNv5 : Hid (Arr (v1.alloc (.cells #[.int .u64 z] 38)) v1.heap.size 38 [.int .u64 z]) := Arr.new v1 38 [.int .u64 z] rfl
          have HOv5 : Hid (BOwn (v1.alloc (.cells #[.int .u64 z] 38)) w1.heap.size (.slice ap ps.length cp) ps) := ⟨World.ownsRow.alloc HOv1.out.own _⟩
          have HWv5 : Hid (Below w1.heap.size w1 (v1.alloc (.cells #[.int .u64 z] 38))) := HBd.out.alloc HBd.out.size _
          have HTv5 : Hid (Arr (v1.alloc (.cells #[.int .u64 z] 38)) gl7 5 [.int .u8 y]) := Arr.alloc HNv1.out _
          refine hK.out _ _ (HCell.out _ HWv5.out) (fun hS => ?_)
          have hgv5 : N0 ≤ v1.heap.size := hN
          have hMv5 : N0 ≤ (v1.alloc (.cells #[.int .u64 z] 38)).heap.size := by simp; omega
          clear hK K HOv1 HBd hN HNv1
          generalize v1.alloc (.cells #[.int .u64 z] 38) = v5 at *
          generalize v1.heap.size = gl15 at *
          have HBd : Hid _ := HWv5.out
          have hN : N0 ≤ v5.heap.size := hMv5
          clear HWv5 hMv5
          refine wpAnyH_ready (rs := [8]) (by kernel_rfl) (by simp) ?_
          refine AllReadyH.cons rfl (fun K hK => ?_) (AllReadyH.nil)
          refine wp_app_bytes _ _ rfl w1.heap.size _ ps rfl HOv5.out gl7 [y] 1 rfl rfl HTv5.out (by simp; omega) HBd.out.size ?_
          intro x8 v6 hown hgrow
          have HOv6 : Hid (BOwn v6 w1.heap.size x8 (ps ++ [y])) := hown
          have HWv6 : Hid (Below w1.heap.size w1 v6) := HBd.out.grown hgrow HBd.out.size HOv5.out.ge
          have HTv6 : Hid (Arr v6 gl15 38 [.int .u64 z]) := arr_kept HNv5.out hgrow (fun e => by have := HLt0.out _ e; omega)
          have hMv6 : N0 ≤ v6.heap.size := by have := hgrow.size; omega
          refine hK.out _ _ (HCell.out _ HWv6.out) (fun hS => ?_)
          clear hK K hown hgrow HOv5 HTv5 HBd hN HNv5
          have HBd : Hid _ := HWv6.out
          have hN : N0 ≤ v6.heap.size := hMv6
          clear HWv6 hMv6
          refine wpAnyH_ready (rs := [16]) (by kernel_rfl) (by simp) ?_
          refine AllReadyH.cons rfl (fun K hK => ?_) (AllReadyH.nil)
          go_simp
          refine Calls.mono (refPut_on x8 (ps ++ [y]) gl15 z _ (bytes_of_own HOv6.out HPy.out) HTv6.out hzb.1 (by omega) (by simp; omega)) ?_
          rintro r v7 ⟨x16, rfl, hown, hbb, hbx⟩
          have HO9 : Hid (BOwn v7 w1.heap.size x16 ((ps ++ [y]) ++ D z)) := ⟨own_low hown.own HBd.out.size⟩
          have HP9 : Hid _ := hbb
          have HB9 : Hid (Below w1.heap.size w1 v7) := HBd.out.trans (hbx.mono HBd.out.size)
          refine hK.out _ _ (HCell.out _ HB9.out) (fun hS => ?_)
          clear hK K hown hbb hbx HOv6 HTv6 HBd
          refine wpAnyH_take (i := 17) (v := ?_) rfl (by kernel_rfl) (by kernel_rfl) (by kernel_rfl) (fun _ _ _ h => h) (Or.inl ⟨by rfl, ?_⟩) hS ?_
          rotate_left 1
          · intro w hSw; (try dsimp only at hSw); go_simp <;> with_reducible rfl
          simp only [List.getElem_toArray, List.getElem_cons_zero, List.getElem_cons_succ, Act.put, List.setIfInBounds_toArray, List.set_cons_zero, List.set_cons_succ]
          refine wpAnyH_done (by kernel_rfl) ?_ _
          go_wp2
          go_roundw
          case rel => exact ⟨k + 1, (ps ++ [y]) ++ D z, by omega, by go_num, HO9.out, HP9.out, by have := D_len z; simp; omega, HB9.out⟩
          case measure => simp [intOf]; omega
      · go_simp
        have HNv8 : Hid (Arr (v0.alloc (.cells #[.int .u64 z] 38)) v0.heap.size 38 [.int .u64 z]) := Arr.new v0 38 [.int .u64 z] rfl
        have HOv8 : Hid (BOwn (v0.alloc (.cells #[.int .u64 z] 38)) w1.heap.size (.slice ap ps.length cp) ps) := ⟨World.ownsRow.alloc HO.out.own _⟩
        have HWv8 : Hid (Below w1.heap.size w1 (v0.alloc (.cells #[.int .u64 z] 38))) := HBd.out.alloc HBd.out.size _
        refine hK.out _ _ (HCell.out _ HWv8.out) (fun hS => ?_)
        have hgv8 : N0 ≤ v0.heap.size := hN
        have hMv8 : N0 ≤ (v0.alloc (.cells #[.int .u64 z] 38)).heap.size := by simp; omega
        clear hK K HO HBd hN
        generalize v0.alloc (.cells #[.int .u64 z] 38) = v8 at *
        generalize v0.heap.size = gl15 at *
        have HBd : Hid _ := HWv8.out
        have hN : N0 ≤ v8.heap.size := hMv8
        clear HWv8 hMv8
        refine wpAnyH_ready (rs := [7]) (by kernel_rfl) (by simp) ?_
        refine AllReadyH.cons rfl (fun K hK => ?_) (AllReadyH.nil)
        go_simp
        have HNv9 : Hid (Arr (v8.alloc (.cells #[.int .u8 y] 5)) v8.heap.size 5 [.int .u8 y]) := Arr.new v8 5 [.int .u8 y] rfl
        have HOv9 : Hid (BOwn (v8.alloc (.cells #[.int .u8 y] 5)) w1.heap.size (.slice ap ps.length cp) ps) := ⟨World.ownsRow.alloc HOv8.out.own _⟩
        have HWv9 : Hid (Below w1.heap.size w1 (v8.alloc (.cells #[.int .u8 y] 5))) := HBd.out.alloc HBd.out.size _
        have HTv9 : Hid (Arr (v8.alloc (.cells #[.int .u8 y] 5)) gl15 38 [.int .u64 z]) := Arr.alloc HNv8.out _
        refine hK.out _ _ (HCell.out _ HWv9.out) (fun hS => ?_)
        have hgv9 : N0 ≤ v8.heap.size := hN
        have hMv9 : N0 ≤ (v8.alloc (.cells #[.int .u8 y] 5)).heap.size := by simp; omega
        clear hK K HOv8 HBd hN HNv8
        generalize v8.alloc (.cells #[.int .u8 y] 5) = v9 at *
        generalize v8.heap.size = gl7 at *
        have HBd : Hid _ := HWv9.out
        have hN : N0 ≤ v9.heap.size := hMv9
        clear HWv9 hMv9
        refine wpAnyH_ready (rs := [8]) (by kernel_rfl) (by simp) ?_
        refine AllReadyH.cons rfl (fun K hK => ?_) (AllReadyH.nil)
        refine wp_app_bytes _ _ rfl w1.heap.size _ ps rfl HOv9.out gl7 [y] 1 rfl rfl HNv9.out (by simp; omega) HBd.out.size ?_
        intro x8 v10 hown hgrow
        have HOv10 : Hid (BOwn v10 w1.heap.size x8 (ps ++ [y])) := hown
        have HWv10 : Hid (Below w1.heap.size w1 v10) := HBd.out.grown hgrow HBd.out.size HOv9.out.ge
        have HTv10 : Hid (Arr v10 gl15 38 [.int .u64 z]) := arr_kept HTv9.out hgrow (fun e => by have := HLt0.out _ e; omega)
        have hMv10 : N0 ≤ v10.heap.size := by have := hgrow.size; omega
        refine hK.out _ _ (HCell.out _ HWv10.out) (fun hS => ?_)
        clear hK K hown hgrow HOv9 HNv9 HBd hN HTv9
        have HBd : Hid _ := HWv10.out
        have hN : N0 ≤ v10.heap.size := hMv10
        clear HWv10 hMv10
        refine wpAnyH_ready (rs := [16]) (by kernel_rfl) (by simp) ?_
        refine AllReadyH.cons rfl (fun K hK => ?_) (AllReadyH.nil)
        go_simp
        refine Calls.mono (refPut_on x8 (ps ++ [y]) gl15 z _ (bytes_of_own HOv10.out HPy.out) HTv10.out hzb.1 (by omega) (by simp; omega)) ?_
        rintro r v11 ⟨x16, rfl, hown, hbb, hbx⟩
        have HO9 : Hid (BOwn v11 w1.heap.size x16 ((ps ++ [y]) ++ D z)) := ⟨own_low hown.own HBd.out.size⟩
        have HP9 : Hid _ := hbb
        have HB9 : Hid (Below w1.heap.size w1 v11) := HBd.out.trans (hbx.mono HBd.out.size)
        refine hK.out _ _ (HCell.out _ HB9.out) (fun hS => ?_)
        clear hK K hown hbb hbx HOv10 HTv10 HBd
        refine wpAnyH_take (i := 17) (v := ?_) rfl (by kernel_rfl) (by kernel_rfl) (by kernel_rfl) (fun _ _ _ h => h) (Or.inl ⟨by rfl, ?_⟩) hS ?_
        rotate_left 1
        · intro w hSw; (try dsimp only at hSw); go_simp <;> with_reducible rfl
        simp only [List.getElem_toArray, List.getElem_cons_zero, List.getElem_cons_succ, Act.put, List.setIfInBounds_toArray, List.set_cons_zero, List.set_cons_succ]
        refine wpAnyH_done (by kernel_rfl) ?_ _
        go_wp2
        go_roundw
        case rel => exact ⟨k + 1, (ps ++ [y]) ++ D z, by omega, by go_num, HO9.out, HP9.out, by have := D_len z; simp; omega, HB9.out⟩
        case measure => simp [intOf]; omega
    · have hkk : k = n := by omega
      have hdk : decide ((k : Int) < (n : Int)) = false := by simp; omega
      obtain ⟨ap, cp, rfl, hrp, hbp, hcp, hmp, hnp⟩ := bytes_of_own hO HPb.out
      have HP : Hid (Bytes wr (.slice ap ps.length cp) ps) := ⟨ap, cp, rfl, hrp, hbp, hcp, hmp, hnp⟩
      have HB : Hid (Below w1.heap.size w1 wr) := hB
      have hpl2 : ps.length ≤ 220 := by omega
      clear hO hB hrp hbp hcp hmp hnp hpl HX
      have HPn : Hid (∀ w : World, Calls Try.prog 19 #[.slice none 0 0, .slice (some ⟨w.heap.size, 0, none⟩) 1 1] (w.alloc (.cells #[.int .u64 (n : Int)] 38)) fun e w' => ∃ v, e = .returned v ∧ BOwn w' w.heap.size v (D (n : Int)) ∧ Below w.heap.size w w') := fun w => by
        have hb1 : Below w.heap.size w (w.alloc (.cells #[.int .u64 (n : Int)] 38)) := (Below.refl _ _).alloc (Nat.le_refl _) _
        refine (refPut_any none (some ⟨w.heap.size, 0, none⟩) [] [(n : Int)] 0 1 _ (.inl rfl) (by simp) (by decide) (by simp) (lit_row w .u64 [(n : Int)] 38 _ rfl) (by simp; omega) (by simp) (by decide) (by simp)).mono ?_
        rintro e w' ⟨v, rfl, hown, hbl⟩
        rw [List.flatMap_cons, List.flatMap_nil, List.append_nil, List.nil_append] at hown
        exact ⟨v, rfl, ⟨own_low hown (by simp)⟩, hb1.trans (hbl.mono hb1.size)⟩
      have hDl := D_len (n : Int)
      have HDb : Hid (∀ c ∈ D (n : Int), 0 ≤ c ∧ c ≤ 255) := D_byte (by omega) (by omega)
      have e1 : IntKind.u64.wrap (n : Int) = (n : Int) := by rw [IntKind.wrap_u64]; omega
      go_wp2_with fail
      refine Calls.mono (HPn.out _) ?_
      rintro r w2 ⟨v2, rfl, hown, hb2⟩
      have HO2 : Hid (BOwn w2 wr.heap.size v2 (D (n : Int))) := hown
      have HP2 : Hid _ := bytes_later HP.out hb2
      have HB2 : Hid (Below w1.heap.size w1 w2) := HB.out.trans (hb2.mono HB.out.size)
      have hsz2 : wr.heap.size ≤ w2.heap.size := hb2.size
      have hsz1 : w1.heap.size ≤ wr.heap.size := HB.out.size
      clear hown hb2 HP HB HPn
      obtain ⟨p3, hp3⟩ : ∃ p3, p3 = D (n : Int) ++ ps := ⟨_, rfl⟩
      have HP3 : Hid (p3 = D (n : Int) ++ ps) := hp3
      have HPb3 : Hid (∀ c ∈ p3, 0 ≤ c ∧ c ≤ 255) := fun c hc => by rw [hp3] at hc; exact (List.mem_append.1 hc).elim (HDb.out c) (HPb.out c)
      have hl3 : p3.length ≤ 230 := by rw [hp3, List.length_append]; omega
      clear hp3
      go_wp2_with (at_builtin; refine wpList_app_bytes rfl _ _ rfl wr.heap.size v2 (D (n : Int)) rfl HO2.out (.slice ap ps.length cp) ps rfl HP2.out (by omega) hsz2 ?_; intro v3 w3 hown3 hgrow3; rw [← HP3.out] at hown3; obtain ⟨a3, c3, rfl, _, _, _, _, _⟩ := bytes_of_own hown3 HPb3.out)
      have HB3 : Hid (Below w1.heap.size w1 w3) := HB2.out.grown hgrow3 HB2.out.size (fun j hj => Nat.le_trans hsz1 (HO2.out.ge j hj))
      have HY3 : Hid (Bytes w3 (.slice a3 p3.length c3) p3) := bytes_of_own hown3 HPb3.out
      obtain ⟨_, _, hv3, hr3, hb3', hc3, hm3, hn3⟩ := HY3.out
      simp only [Value.slice.injEq] at hv3
      obtain ⟨rfl, _, rfl⟩ := hv3
      have HCh : Hid _ := changed_any a3 p3 c3 n2 n3 n4 w3 hr3 hb3' hc3 hm3 hn3 (by omega) hb2.1 hb2.2 hb3 hb4
      clear hown3 hgrow3 hr3 hb3' hc3 hm3 hn3 HO2 HP2 HB2 hDl HDb HP3 HPb3
      generalize hq3 : p3.length = l3 at *
      clear hq3
      refine Calls.mono HCh.out ?_
      rintro r w4 ⟨v4, rfl, y4, hby4, _, hb4'⟩
      obtain ⟨a4, c4, rfl, hr4, hb4'', hc4, hm4, hn4⟩ := hby4
      have HY4 : Hid (Bytes w4 (.slice a4 y4.length c4) y4) := ⟨a4, c4, rfl, hr4, hb4'', hc4, hm4, hn4⟩
      have HY3 : Hid _ := bytes_later HY3.out hb4'
      have HB4 : Hid (Below w1.heap.size w1 w4) := HB3.out.trans (hb4'.mono HB3.out.size)
      clear HCh hb4' hr4 hb4'' hc4 hm4 hn4 HB3
      generalize hq4 : y4.length = l4 at *
      have HQ4 : Hid _ := hq4
      clear hq4
      obtain ⟨q, hq⟩ : ∃ q : Int, q = n3 % 20 := ⟨_, rfl⟩
      have hqb : 0 ≤ q ∧ q < 20 := by omega
      have f1 : n3 % 20 = q := hq.symm
      have f2 : n3.tmod 20 = q := by rw [Int.tmod_eq_emod_of_nonneg (by omega)]; exact hq.symm
      have f3 : IntKind.u8.wrap q = q := by rw [IntKind.wrap_u8]; omega
      clear hq
      have HBl : Hid (Below w4.heap.size w4 (w4.alloc (.cells #[.int .u8 q] 5))) := (Below.refl _ _).alloc (Nat.le_refl _) _
      have HOl : Hid (BOwn (w4.alloc (.cells #[.int .u8 q] 5)) w4.heap.size (.slice (some ⟨w4.heap.size, 0, none⟩) 1 1) [q]) := own_byte w4 q
      have HZl : Hid (Bytes (w4.alloc (.cells #[.int .u8 q] 5)) (.slice a0 L cap0) zs) := HZ.out _ (HB1.out.trans ((HB4.out.trans (HBl.out.mono HB4.out.size)).mono HB1.out.size))
      obtain ⟨p5, hp5⟩ : ∃ p5, p5 = [q] ++ zs := ⟨_, rfl⟩
      have HP5 : Hid (p5 = [q] ++ zs) := hp5
      have HQz : Hid (∀ c ∈ p5, 0 ≤ c ∧ c ≤ 255) := by
        obtain ⟨_, _, _, _, hzz, _⟩ := HZl.out
        intro c hc
        rw [hp5] at hc
        rcases List.mem_append.1 hc with h | h
        · simp at h; omega
        · exact hzz c h
      clear hp5
      go_upto_region 12 with (at_builtin; refine wpList_app_bytes rfl _ _ rfl w4.heap.size _ [q] rfl HOl.out (.slice a0 L cap0) zs rfl HZl.out (by have := HL.out; simp; omega) HBl.out.size ?_; intro v5 w5 hown5 hgrow5; rw [← HP5.out] at hown5; obtain ⟨a5, c5, rfl, _, _, _, _, _⟩ := bytes_of_own hown5 HQz.out)
      have HB5 : Hid (Below w4.heap.size w4 w5) := HBl.out.grown hgrow5 HBl.out.size HOl.out.ge
      have HY5 : Hid (Bytes w5 (.slice a5 p5.length c5) p5) := bytes_of_own hown5 HQz.out
      clear hown5 hgrow5 HOl HZl HBl HQz HP5
      generalize hq5 : p5.length = l5 at *
      have HQ5 : Hid _ := hq5
      clear hq5
      generalize p5 = y5 at *
      have HB6 : Hid (Below w4.heap.size w4 (w5.alloc (.cells #[.slice a0 L cap0, .slice a3 l3 c3, .slice a4 l4 c4, .slice a5 l5 c5] 34))) := HB5.out.alloc HB5.out.size _
      have HG6 : Hid (Arr (w5.alloc (.cells #[.slice a0 L cap0, .slice a3 l3 c3, .slice a4 l4 c4, .slice a5 l5 c5] 34)) w5.heap.size 34 [.slice a0 L cap0, .slice a3 l3 c3, .slice a4 l4 c4, .slice a5 l5 c5]) := Arr.new w5 _ _ rfl
      have HY5 : Hid (Bytes (w5.alloc (.cells #[.slice a0 L cap0, .slice a3 l3 c3, .slice a4 l4 c4, .slice a5 l5 c5] 34)) (.slice a5 l5 c5) y5) := bytes_later HY5.out ((Below.refl _ _).alloc (Nat.le_refl _) _)
      generalize w5.alloc (.cells #[.slice a0 L cap0, .slice a3 l3 c3, .slice a4 l4 c4, .slice a5 l5 c5] 34) = w6 at *
      generalize w5.heap.size = G at *
      have HBW : Hid (Below W.heap.size W w6) := HB1.out.trans ((HB4.out.trans (HB6.out.mono HB4.out.size)).mono HB1.out.size)
      have HV : Hid (∀ m, m < 4 → ∃ v ys, w6.cell? ⟨G, m, none⟩ = some v ∧ Bytes w6 v ys) := fun m hm => by
        match m, hm with
        | 0, _ => exact ⟨_, _, Arr.cell HG6.out 0, HZ.out _ HBW.out⟩
        | 1, _ => exact ⟨_, _, Arr.cell HG6.out 1, bytes_later HY3.out HB6.out⟩
        | 2, _ => exact ⟨_, _, Arr.cell HG6.out 2, bytes_later HY4.out HB6.out⟩
        | 3, _ => exact ⟨_, _, Arr.cell HG6.out 3, HY5.out⟩
      clear HG6 HY3 HY4 HY5 HB4 HB5 HB6 HZ HB1 HQ4 HL
      go_loopw [70] (fun i wr => ∃ m : Nat, m ≤ 4 ∧ i = .int .i64 m ∧ Below w6.heap.size w6 wr) (fun i _ => 4 - (intOf i).toNat)
      case atStart => exact ⟨0, by omega, rfl, Below.refl _ _⟩
      case round =>
        obtain ⟨m, hm, rfl, hB⟩ := hrel
        have HB : Hid (Below w6.heap.size w6 wr) := hB
        clear hB
        by_cases hmn : m < 4
        · have hmi : (m : Int) < 4 := by omega
          obtain ⟨v, ys, hcell, hby⟩ := HV.out m hmn
          have hcw : wr.cell? ⟨G, m, none⟩ = some v := by rw [HB.out.cell (World.block_lt_of_cell? w6 _ hcell)]; exact hcell
          obtain ⟨av, cv, rfl, hrow, hbb, hcc, hmm, hnn⟩ := hby
          have HYv : Hid (∀ w, Below w6.heap.size w6 w → Bytes w (.slice av ys.length cv) ys) := fun w hB => ⟨av, cv, rfl, hrow.later hB, hbb, hcc, hmm, hnn⟩
          have HT : Hid (∀ w, Below w6.heap.size w6 w → _) := fun w (hB : Below w6.heap.size w6 w) => dotTakeAll_any av ys cv w (hrow.later hB) hbb hcc hmm
          have HR : Hid (∀ w, Below w6.heap.size w6 w → _) := fun w (hB : Below w6.heap.size w6 w) => refDotAll_any av ys cv w (hrow.later hB) hbb hcc hmm
          have hac := DotMath.all_cases ys hbb
          obtain ⟨R, hR⟩ : ∃ R, R = DotMath.all ys := ⟨_, rfl⟩
          rw [← hR] at hac
          simp only [← hR] at HT HR
          clear hcell hrow hnn hR
          obtain ⟨l, nn, er⟩ := R
          generalize hlv : ys.length = lv at *
          have HLv : Hid (ys.length = lv) := hlv
          have hcv : lv ≤ cv := hcc
          have HBb : Hid (∀ c ∈ ys, 0 ≤ c ∧ c ≤ 255) := hbb
          have HMm : Hid (cv ≤ maxLen) := hmm
          clear hlv hbb hcc hmm
          have HAc : Hid _ := hac
          clear hac
          go_wp2_with fail
          refine Calls.mono (HT.out _ HB.out) ?_
          rintro r w7 ⟨y, rfl, hd1, hb7⟩
          obtain ⟨ay, cy, rfl, hry, hcy, hmy, _⟩ := hd1
          have HY7 : Hid (DRow w7 ay l) := hry
          have HB7 : Hid (Below w6.heap.size w6 w7) := HB.out.trans (hb7.mono HB.out.size)
          generalize hll : l.length = ll at *
          have HLl : Hid (l.length = ll) := hll
          have HMy : Hid (cy ≤ maxLen) := hmy
          clear hll hry hb7 hmy HB hcw HT
          go_wp2_with fail
          refine Calls.mono (HR.out _ HB7.out) ?_
          rintro r w8 ⟨z, rfl, hd2, hb8⟩
          obtain ⟨az, cz, rfl, hrz, hcz, hmz, _⟩ := hd2
          have HY8 : Hid (DRow w8 ay l) := DRow.later HY7.out hb8
          have HB8 : Hid (Below w6.heap.size w6 w8) := HB7.out.trans (hb8.mono HB7.out.size)
          have HSame : Hid _ := sameDots_any ay az cy cz l w8 HY8.out hrz (by rw [HLl.out]; exact hcy) hcz HMy.out hmz
          rw [HLl.out] at HSame ⊢
          clear hrz hcz hmz hb8 HY7 HB7 HR
          go_wp2_with fail
          refine Calls.mono HSame.out ?_
          rintro r w9 ⟨rfl, hb9⟩
          have HY9 : Hid (DRow w9 ay l) := DRow.later HY8.out hb9
          have HB9 : Hid (Below w6.heap.size w6 w9) := HB8.out.trans (hb9.mono HB8.out.size)
          clear hb9 HY8 HB8 HSame
          go_upto_region 18 with (fail)
          have hec : er = 20 ∨ er = 21 ∨ ∃ n' : Nat, er = 0 ∧ nn = (n' : Int) ∧ 1 ≤ n' ∧ n' ≤ lv ∧ Hid (DotMath.put l = ys.take n') := by
            rcases HAc.out with h | h | ⟨l', n', h, h1, h2, h3⟩
            · left; exact congrArg (fun x => x.2.2) h
            · right; left; exact congrArg (fun x => x.2.2) h
            · right; right
              have e1 : l = l' := congrArg (fun x => x.1) h
              subst e1
              exact ⟨n', congrArg (fun x => x.2.2) h, congrArg (fun x => x.2.1) h, h1, h2, h3⟩
          clear HAc
          rcases hec with rfl | rfl | ⟨n', rfl, rfl, hn1, hnl, HPt⟩
          · have hne : Nonempty (Grown1 w9) := ⟨⟨w9, Below.refl _ _⟩⟩
            (try simp only [Act.put])
            refine wp_region_grow (by kernel_rfl) (by kernel_rfl) ?_
            repeat (go_big_quiet_step (fail))
            refine wpQuiet_nil ?_
            intro _ hw'
            obtain ⟨n1, hw''⟩ := hw'
            subst hw''
            have HBe : Hid (Below w6.heap.size w6 n1.w) := HB9.out.trans (n1.below.mono HB9.out.size)
            generalize n1.w = u7 at *
            go_wp2
            go_roundw
            case rel => exact ⟨m + 1, by omega, by go_num, HBe.out⟩
            case measure => simp [intOf]; omega
          · have hne : Nonempty (Grown1 w9) := ⟨⟨w9, Below.refl _ _⟩⟩
            (try simp only [Act.put])
            refine wp_region_grow (by kernel_rfl) (by kernel_rfl) ?_
            repeat (go_big_quiet_step (fail))
            refine wpQuiet_nil ?_
            intro _ hw'
            obtain ⟨n1, hw''⟩ := hw'
            subst hw''
            have HBe : Hid (Below w6.heap.size w6 n1.w) := HB9.out.trans (n1.below.mono HB9.out.size)
            generalize n1.w = u7 at *
            go_wp2
            go_roundw
            case rel => exact ⟨m + 1, by omega, by go_num, HBe.out⟩
            case measure => simp [intOf]; omega
          · have HSt : Hid (∀ w, Below w6.heap.size w6 w → (convert 34 9 (.slice av n' cv)).run Try.prog w = .ok (.string (strOfNums (ys.take n'))) w) := fun w hB => by
              obtain ⟨_, _, hv, hrow, _, _, _, _⟩ := HYv.out w hB
              simp only [Value.slice.injEq] at hv
              obtain ⟨rfl, _, rfl⟩ := hv
              have h9 : (convert 34 9 (.slice av (ys.take n').length cv)).run Try.prog w = .ok (.string (strOfNums (ys.take n'))) w := row_string (Row.take hrow n')
              rw [List.length_take, HLv.out, Nat.min_eq_left hnl] at h9
              exact h9
            have hl16 : l.length ≤ 16 := by
              have hp : (DotMath.put l).length ≠ 0 := by rw [HPt.out, List.length_take, HLv.out]; omega
              have := fun h => hp ((DotMath.put_nil l).2 h)
              by_cases h : DotMath.rises l = true ∧ l.length ≤ 16
              · exact h.2
              · exact absurd h this
            have HPu : Hid (∀ w, DRow w ay l → Calls Try.prog 22 #[.slice ay ll cy] w fun e w' => ∃ v, e = .returned v ∧ Bytes w' v (ys.take n') ∧ Below w.heap.size w w') := fun w hr => by
              have := dotPut_any ay l cy w hr (by rw [HLl.out]; exact hcy) HMy.out (by omega)
              rw [HLl.out, HPt.out] at this
              exact this
            have i1 : (1 : Int) ≤ (n' : Int) := by omega
            have i2 : (n' : Int) ≤ (lv : Int) := by omega
            have i3 : (n' : Int) ≤ (cv : Int) := by omega
            have d1 : decide ((n' : Int) < 1) = false := decide_eq_false (by omega)
            have d2 : decide ((lv : Int) < (n' : Int)) = false := decide_eq_false (by omega)
            have d3 : ¬ lv < n' := by omega
            have d4 : ¬ (lv : Int) < (n' : Int) := by omega
            have HYd : Hid (DRow w9.drew ay l) := DRow.drew HY9.out
            have HBd : Hid (Below w6.heap.size w6 w9.drew) := HB9.out.drew
            clear HY9 HB9 hl16 HPt HLl HMy hcy
            refine wp_region_held_drew (S := fun w' => (convert 34 9 (.slice av n' cv)).run Try.prog w' = .ok (.string (strOfNums (ys.take n'))) w') (by kernel_rfl) (HSt.out _ HBd.out) (fun hS => ?_)
            generalize w9.drew = v0 at *
            refine wpAnyH_take (i := 0) (v := ?_) rfl (by kernel_rfl) (by kernel_rfl) (by kernel_rfl) (fun _ _ _ h => h) (Or.inl ⟨by rfl, ?_⟩) hS ?_
            rotate_left 1
            · intro w hSw; (try dsimp only at hSw); go_simp <;> with_reducible rfl
            simp only [List.getElem_toArray, List.getElem_cons_zero, List.getElem_cons_succ, Act.put, List.setIfInBounds_toArray, List.set_cons_zero, List.set_cons_succ]
            refine wpAnyH_take (i := 1) (v := ?_) rfl (by kernel_rfl) (by kernel_rfl) (by kernel_rfl) (fun _ _ _ h => h) (Or.inl ⟨by rfl, ?_⟩) hS ?_
            rotate_left 1
            · intro w hSw; (try dsimp only at hSw); go_simp <;> with_reducible rfl
            simp only [List.getElem_toArray, List.getElem_cons_zero, List.getElem_cons_succ, Act.put, List.setIfInBounds_toArray, List.set_cons_zero, List.set_cons_succ]
            refine wpAnyH_take (i := 2) (v := ?_) rfl (by kernel_rfl) (by kernel_rfl) (by kernel_rfl) (fun _ _ _ h => h) (Or.inl ⟨by rfl, ?_⟩) hS ?_
            rotate_left 1
            · intro w hSw; (try dsimp only at hSw); go_simp <;> with_reducible rfl
            simp only [List.getElem_toArray, List.getElem_cons_zero, List.getElem_cons_succ, Act.put, List.setIfInBounds_toArray, List.set_cons_zero, List.set_cons_succ]
            refine wpAnyH_take (i := 3) (v := ?_) rfl (by kernel_rfl) (by kernel_rfl) (by kernel_rfl) (fun _ _ _ h => h) (Or.inl ⟨by rfl, ?_⟩) hS ?_
            rotate_left 1
            · intro w hSw; (try dsimp only at hSw); go_simp <;> with_reducible rfl
            simp only [List.getElem_toArray, List.getElem_cons_zero, List.getElem_cons_succ, Act.put, List.setIfInBounds_toArray, List.set_cons_zero, List.set_cons_succ]
            refine wpAnyH_take (i := 4) (v := ?_) rfl (by kernel_rfl) (by kernel_rfl) (by kernel_rfl) (fun _ _ _ h => h) (Or.inl ⟨by rfl, ?_⟩) hS ?_
            rotate_left 1
            · intro w hSw; (try dsimp only at hSw); go_simp <;> with_reducible rfl
            simp only [List.getElem_toArray, List.getElem_cons_zero, List.getElem_cons_succ, Act.put, List.setIfInBounds_toArray, List.set_cons_zero, List.set_cons_succ]
            refine wpAnyH_take (i := 5) (v := ?_) rfl (by kernel_rfl) (by kernel_rfl) (by kernel_rfl) (fun _ _ _ h => h) (Or.inl ⟨by rfl, ?_⟩) hS ?_
            rotate_left 1
            · intro w hSw; (try dsimp only at hSw); go_simp <;> with_reducible rfl
            simp only [List.getElem_toArray, List.getElem_cons_zero, List.getElem_cons_succ, Act.put, List.setIfInBounds_toArray, List.set_cons_zero, List.set_cons_succ]
            refine wpAnyH_take (i := 6) (v := ?_) rfl (by kernel_rfl) (by kernel_rfl) (by kernel_rfl) (fun _ _ _ h => h) (Or.inl ⟨by rfl, ?_⟩) hS ?_
            rotate_left 1
            · intro w hSw; (try dsimp only at hSw); go_simp <;> with_reducible rfl
            simp only [List.getElem_toArray, List.getElem_cons_zero, List.getElem_cons_succ, Act.put, List.setIfInBounds_toArray, List.set_cons_zero, List.set_cons_succ]
            refine wpAnyH_take (i := 7) (v := ?_) rfl (by kernel_rfl) (by kernel_rfl) (by kernel_rfl) (fun _ _ _ h => h) (Or.inl ⟨by rfl, ?_⟩) hS ?_
            rotate_left 1
            · intro w hSw; (try dsimp only at hSw); go_simp <;> with_reducible rfl
            simp only [List.getElem_toArray, List.getElem_cons_zero, List.getElem_cons_succ, Act.put, List.setIfInBounds_toArray, List.set_cons_zero, List.set_cons_succ]
            refine wpAnyH_take (i := 8) (v := ?_) rfl (by kernel_rfl) (by kernel_rfl) (by kernel_rfl) (fun _ _ _ h => h) (Or.inl ⟨by rfl, ?_⟩) hS ?_
            rotate_left 1
            · intro w hSw; (try dsimp only at hSw); go_simp <;> with_reducible rfl
            simp only [List.getElem_toArray, List.getElem_cons_zero, List.getElem_cons_succ, Act.put, List.setIfInBounds_toArray, List.set_cons_zero, List.set_cons_succ]
            refine wpAnyH_take (i := 9) (v := ?_) rfl (by kernel_rfl) (by kernel_rfl) (by kernel_rfl) (fun _ _ _ h => h) (Or.inl ⟨by rfl, ?_⟩) hS ?_
            rotate_left 1
            · intro w hSw; (try dsimp only at hSw); go_simp <;> with_reducible rfl
            simp only [List.getElem_toArray, List.getElem_cons_zero, List.getElem_cons_succ, Act.put, List.setIfInBounds_toArray, List.set_cons_zero, List.set_cons_succ]
            refine wpAnyH_take (i := 10) (v := ?_) rfl (by kernel_rfl) (by kernel_rfl) (by kernel_rfl) (fun _ _ _ h => h) (Or.inl ⟨by rfl, ?_⟩) hS ?_
            rotate_left 1
            · intro w hSw; (try dsimp only at hSw); go_simp <;> with_reducible rfl
            simp only [List.getElem_toArray, List.getElem_cons_zero, List.getElem_cons_succ, Act.put, List.setIfInBounds_toArray, List.set_cons_zero, List.set_cons_succ]
            refine wpAnyH_take (i := 11) (v := ?_) rfl (by kernel_rfl) (by kernel_rfl) (by kernel_rfl) (fun _ _ _ h => h) (Or.inl ⟨by rfl, ?_⟩) hS ?_
            rotate_left 1
            · intro w hSw; (try dsimp only at hSw); go_simp <;> with_reducible rfl
            simp only [List.getElem_toArray, List.getElem_cons_zero, List.getElem_cons_succ, Act.put, List.setIfInBounds_toArray, List.set_cons_zero, List.set_cons_succ]
            refine wpAnyH_take (i := 12) (v := ?_) rfl (by kernel_rfl) (by kernel_rfl) (by kernel_rfl) (fun _ _ _ h => h) (Or.inl ⟨by rfl, ?_⟩) hS ?_
            rotate_left 1
            · intro w hSw; (try dsimp only at hSw); go_simp <;> with_reducible rfl
            simp only [List.getElem_toArray, List.getElem_cons_zero, List.getElem_cons_succ, Act.put, List.setIfInBounds_toArray, List.set_cons_zero, List.set_cons_succ]
            refine wpAnyH_take (i := 15) (v := ?_) rfl (by kernel_rfl) (by kernel_rfl) (by kernel_rfl) (fun _ _ _ h => h) (Or.inl ⟨by rfl, ?_⟩) hS ?_
            rotate_left 1
            · intro w hSw; (try dsimp only at hSw); go_simp <;> with_reducible rfl
            simp only [List.getElem_toArray, List.getElem_cons_zero, List.getElem_cons_succ, Act.put, List.setIfInBounds_toArray, List.set_cons_zero, List.set_cons_succ]
            refine wpAnyH_take (i := 16) (v := ?_) rfl (by kernel_rfl) (by kernel_rfl) (by kernel_rfl) (fun _ _ _ h => h) (Or.inl ⟨by rfl, ?_⟩) hS ?_
            rotate_left 1
            · intro w hSw; (try dsimp only at hSw); go_simp <;> with_reducible rfl
            simp only [List.getElem_toArray, List.getElem_cons_zero, List.getElem_cons_succ, Act.put, List.setIfInBounds_toArray, List.set_cons_zero, List.set_cons_succ]
            refine wpAnyH_take (i := 17) (v := ?_) rfl (by kernel_rfl) (by kernel_rfl) (by kernel_rfl) (fun _ _ _ h => h) (Or.inl ⟨by rfl, ?_⟩) hS ?_
            rotate_left 1
            · intro w hSw; (try dsimp only at hSw); go_simp <;> with_reducible rfl
            simp only [List.getElem_toArray, List.getElem_cons_zero, List.getElem_cons_succ, Act.put, List.setIfInBounds_toArray, List.set_cons_zero, List.set_cons_succ]
            refine wpAnyH_take (i := 18) (v := ?_) rfl (by kernel_rfl) (by kernel_rfl) (by kernel_rfl) (fun _ _ _ h => h) (Or.inl ⟨by rfl, ?_⟩) hS ?_
            rotate_left 1
            · intro w hSw; (try dsimp only at hSw); go_simp <;> with_reducible rfl
            simp only [List.getElem_toArray, List.getElem_cons_zero, List.getElem_cons_succ, Act.put, List.setIfInBounds_toArray, List.set_cons_zero, List.set_cons_succ]
            refine wpAnyH_ready (rs := [13]) (by kernel_rfl) (by simp) ?_
            refine AllReadyH.cons rfl (fun K hK => ?_) AllReadyH.nil
            go_simp
            refine Calls.mono (HPu.out _ HYd.out) ?_
            rintro r v1 ⟨x2, rfl, hby2, hbx⟩
            have HBe : Hid (Below w6.heap.size w6 v1) := HBd.out.trans (hbx.mono HBd.out.size)
            refine hK.out _ _ (HSt.out _ HBe.out) (fun hS => ?_)
            clear hK K hbx HYd HBd
            have hst := bytes_text hby2
            clear hby2
            refine wpAnyH_weaken (S2 := fun w' => (convert 34 9 (.slice av n' cv)).run Try.prog w' = .ok (.string (strOfNums (ys.take n'))) w' ∧ (convert 34 9 x2).run Try.prog w' = .ok (.string (strOfNums (ys.take n'))) w') (fun w h => h.1) _ _ _ _ ?_
            have hS : _ := And.intro hS hst
            have heq2 : ((strOfNums (ys.take n')).toList == (strOfNums (ys.take n')).toList) = true := by simp
            refine wpAnyH_take (i := 14) (v := ?_) rfl (by kernel_rfl) (by kernel_rfl) (by kernel_rfl) (fun _ _ _ h => h) (Or.inl ⟨by rfl, ?_⟩) hS ?_
            rotate_left 1
            · intro w hSw; (try dsimp only at hSw); go_simp <;> with_reducible rfl
            simp only [List.getElem_toArray, List.getElem_cons_zero, List.getElem_cons_succ, Act.put, List.setIfInBounds_toArray, List.set_cons_zero, List.set_cons_succ]
            refine wpAnyH_take (i := 19) (v := ?_) rfl (by kernel_rfl) (by kernel_rfl) (by kernel_rfl) (fun _ _ _ h => h) (Or.inl ⟨by rfl, ?_⟩) hS ?_
            rotate_left 1
            · intro w hSw; (try dsimp only at hSw); go_simp <;> with_reducible rfl
            simp only [List.getElem_toArray, List.getElem_cons_zero, List.getElem_cons_succ, Act.put, List.setIfInBounds_toArray, List.set_cons_zero, List.set_cons_succ]
            refine wpAnyH_take (i := 20) (v := ?_) rfl (by kernel_rfl) (by kernel_rfl) (by kernel_rfl) (fun _ _ _ h => h) (Or.inl ⟨by rfl, ?_⟩) hS ?_
            rotate_left 1
            · intro w hSw; (try dsimp only at hSw); go_simp <;> with_reducible rfl
            simp only [List.getElem_toArray, List.getElem_cons_zero, List.getElem_cons_succ, Act.put, List.setIfInBounds_toArray, List.set_cons_zero, List.set_cons_succ]
            refine wpAnyH_take (i := 21) (v := ?_) rfl (by kernel_rfl) (by kernel_rfl) (by kernel_rfl) (fun _ _ _ h => h) (Or.inl ⟨by rfl, ?_⟩) hS ?_
            rotate_left 1
            · intro w hSw; (try dsimp only at hSw); go_simp <;> with_reducible rfl
            simp only [List.getElem_toArray, List.getElem_cons_zero, List.getElem_cons_succ, Act.put, List.setIfInBounds_toArray, List.set_cons_zero, List.set_cons_succ]
            refine wpAnyH_done (by kernel_rfl) ?_ _
            clear hS hst
            go_wp2
            go_roundw
            case rel => exact ⟨m + 1, by omega, by go_num, HBe.out⟩
            case measure => simp [intOf]; omega
        · have hmk : m = 4 := by omega
          have hdm : decide ((m : Int) < 4) = false := by simp; omega
          go_wp2
          go_ret
          exact ⟨rfl, HBW.out.trans (HB.out.mono HBW.out.size)⟩
end Go.Proofs.Ytehaeepihjookaa

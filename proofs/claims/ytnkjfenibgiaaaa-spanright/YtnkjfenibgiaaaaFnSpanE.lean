/-
  Walks of newsreelref1.SpanJoin, newsreelref1.SpanOf.
-/
import Derived.Test.YtnkjfenibgiaaaaFnSpanD
namespace Go.Proofs.Ytnkjfenibgiaaaa
open Go.RowKit NumMath
open SpanMath (Rg)
set_option maxRecDepth 100000
set_option linter.unusedVariables false
set_option linter.unusedSimpArgs false

theorem R_fit {l : List Rg} (h : SpanMath.R l) : ∀ r ∈ l, SpanMath.Fit r := fun r hr => SpanMath.ok_fit (h.1 r hr)
theorem add_own {w : World} {base : Nat} {v : Value} {l : List Rg} (r : Rg) (h : GOwn w base v l) (hR : SpanMath.R l) (hr : SpanMath.Fit r) (hl : l.length ≤ 4000000000000) :
    Calls Try.prog 33 #[v, rgV r] w fun e w' => ∃ v', e = .returned v' ∧ GOwn w' w.heap.size v' (SpanMath.add l r) ∧ Below w.heap.size w w' := by
  obtain ⟨ao, c, rfl, hrow, hc, hm, hn⟩ := h.ranges
  exact refSpanAdd_any ao l c r w hrow hc hm hn (R_fit hR) hr hl

set_option maxHeartbeats 8000000 in
theorem refSpanJoin_any (a1 a2 : Option Addr) (xs ys : List Rg) (c1 c2 : Nat) (w : World) (h1 : GRow w a1 xs) (h2 : GRow w a2 ys) (hc1 : xs.length ≤ c1) (hc2 : ys.length ≤ c2) (hm1 : c1 ≤ maxLen) (hm2 : c2 ≤ maxLen) (hn1 : a1 = none → c1 = 0) (hf1 : ∀ r ∈ xs, SpanMath.Fit r) (hf2 : ∀ r ∈ ys, SpanMath.Fit r) (hl1 : xs.length ≤ 1000000000) (hl2 : ys.length ≤ 1000000000) :
    Calls Try.prog 20 #[.slice a1 xs.length c1, .slice a2 ys.length c2] w fun e w' => ∃ v, e = .returned v ∧ GOwn w' w.heap.size v (SpanMath.join xs ys) ∧ Below w.heap.size w w' := by
  have HX : Hid (∀ w', Below w.heap.size w w' → _) := fun w' (hB : Below w.heap.size w w') => refSpanRight_any a1 xs c1 w' (h1.later hB) hc1 hm1 hf1
  have HY : Hid (∀ w', Below w.heap.size w w' → _) := fun w' (hB : Below w.heap.size w w') => refSpanRight_any a2 ys c2 w' (h2.later hB) hc2 hm2 hf2
  unfold maxLen at hm2
  cases hqx : SpanMath.right xs with
  | false =>
    rw [hqx] at HX
    have HN : Hid (SpanMath.join xs ys = []) := by show _ = _; unfold SpanMath.join; rw [if_neg (by rw [hqx]; simp)]
    rw [HN.out]
    generalize xs.length = n1 at *
    generalize ys.length = n2 at *
    clear h1 h2 hqx hf1 hf2 hn1 HY
    go_enter Try.func20, Try.ntmps20
    go_wp2_with fail
    refine Calls.mono (HX.out _ (Below.refl _ _)) ?_
    rintro e w1 ⟨rfl, hb1⟩
    have HB1 : Hid _ := hb1
    clear hb1
    go_wp2
    go_ret
    exact ⟨_, rfl, GOwn.nil _ _, HB1.out⟩
  | true =>
    rw [hqx] at HX
    cases hqy : SpanMath.right ys with
    | false =>
      rw [hqy] at HY
      have HN : Hid (SpanMath.join xs ys = []) := by show _ = _; unfold SpanMath.join; rw [if_neg (by rw [hqy]; simp)]
      rw [HN.out]
      generalize xs.length = n1 at *
      generalize ys.length = n2 at *
      clear h1 h2 hqx hqy hf1 hf2 hn1
      go_enter Try.func20, Try.ntmps20
      go_wp2_with fail
      refine Calls.mono (HX.out _ (Below.refl _ _)) ?_
      rintro e w1 ⟨rfl, hb1⟩
      have HB1 : Hid _ := hb1
      clear hb1
      go_wp2_with fail
      refine Calls.mono (HY.out _ HB1.out) ?_
      rintro e w2 ⟨rfl, hb2⟩
      have HB2 : Hid _ := HB1.out.trans (hb2.mono HB1.out.size)
      clear hb2
      go_wp2
      go_ret
      exact ⟨_, rfl, GOwn.nil _ _, HB2.out⟩
    | true =>
      rw [hqy] at HY
      have hRx := (SpanMath.right_iff xs).1 hqx
      have hRy := (SpanMath.right_iff ys).1 hqy
      have HJ : Hid (SpanMath.join xs ys = SpanMath.joinTo xs (ys.take ys.length)) := by show _ = _; unfold SpanMath.join; rw [if_pos ⟨hqx, hqy⟩, List.take_of_length_le (Nat.le_refl _)]
      have HS : Hid (∀ k, k < ys.length → SpanMath.joinTo xs (ys.take (k + 1)) = SpanMath.add (SpanMath.joinTo xs (ys.take k)) (ys[k]?.getD SpanMath.zero)) := fun k hk => by
        rw [List.take_succ_eq_append_getElem hk, SpanMath.joinTo_snoc]; simp [hk]
      have HRk : Hid (∀ k, SpanMath.R (SpanMath.joinTo xs (ys.take k))) := fun k => (SpanMath.joinTo_spec (ys.take k) xs hRx (hRy.take k).1).1
      have HFk : Hid (∀ k, k < ys.length → SpanMath.Fit (ys[k]?.getD SpanMath.zero)) := fun k hk => by
        rw [List.getElem?_eq_getElem hk]; exact hf2 _ (List.getElem_mem hk)
      have HC : Hid (∀ k, k < ys.length → ∀ w', Below w.heap.size w w' → ∃ b off, a2 = some ⟨b, off, none⟩ ∧ w'.cell? ⟨b, off + k * 2, none⟩ = some (.int .i64 (ys[k]?.getD SpanMath.zero).f) ∧ w'.cell? ⟨b, off + k * 2 + 1, none⟩ = some (.int .i64 (ys[k]?.getD SpanMath.zero).t)) := fun k hk w' hB => by
        obtain ⟨b, off, ha, _⟩ := (h2.later hB).at (by omega)
        subst ha
        exact ⟨b, off, rfl, GRow.cells (h2.later hB) hk⟩
      have HG1 : Hid (∀ w', Below w.heap.size w w' → GRow w' a1 xs) := fun w' hB => h1.later hB
      have HN1 : Hid (a1 = none → c1 = 0) := hn1
      have HL0 : Hid ((SpanMath.joinTo xs (ys.take 0)).length ≤ 1000000000 + 0) := by show _ ≤ _; simpa [SpanMath.joinTo] using hl1
      have HX0 : Hid (xs = SpanMath.joinTo xs (ys.take 0)) := by show _ = _; simp [SpanMath.joinTo]
      obtain ⟨n1, hn⟩ : ∃ n, n = xs.length := ⟨_, rfl⟩
      obtain ⟨n2, hn2⟩ : ∃ n, n = ys.length := ⟨_, rfl⟩
      have HNx : Hid (n1 = xs.length) := hn
      rw [← hn] at hc1 HX hl1 ⊢
      rw [← hn2] at hc2 HY HJ HS HFk HC hl2 ⊢
      clear h1 h2 hqx hqy hf1 hf2 hn1 hRx hRy hn hn2
      go_enter Try.func20, Try.ntmps20
      go_wp2_with fail
      refine Calls.mono (HX.out _ (Below.refl _ _)) ?_
      rintro e w1 ⟨rfl, hb1⟩
      have HB1 : Hid _ := hb1
      clear hb1
      go_wp2_with fail
      refine Calls.mono (HY.out _ HB1.out) ?_
      rintro e w2 ⟨rfl, hb2⟩
      have HB2 : Hid (Below w.heap.size w w2) := HB1.out.trans (hb2.mono HB1.out.size)
      clear hb2 HB1 HX HY
      go_wp2_with (at_builtin; refine wpList_app_rngs rfl _ _ rfl w.heap.size (.slice none 0 0) [] rfl (GOwn.nil _ _) a1 c1 xs n1 HNx.out rfl (HG1.out _ HB2.out) HN1.out hc1 (by rw [← HNx.out]; simp; omega) HB2.out.size ?_; intro v3 w3 hown3 hgrow3)
      have HO3 : Hid (GOwn w3 w.heap.size v3 (SpanMath.joinTo xs (ys.take 0))) := by rw [← HX0.out]; exact (by simpa using hown3 : GOwn _ _ _ xs)
      have HB3 : Hid (Below w.heap.size w w3) := HB2.out.grown hgrow3 HB2.out.size (fun q hq => by cases hq)
      clear hown3 hgrow3 HB2
      go_wp2_with fail
      go_loopw [5, 6] (fun v i wr => ∃ k : Nat, k ≤ n2 ∧ i = .int .i64 k ∧ GOwn wr w.heap.size v (SpanMath.joinTo xs (ys.take k)) ∧ Hid ((SpanMath.joinTo xs (ys.take k)).length ≤ 1000000000 + k) ∧ Below w.heap.size w wr) (fun _ i _ => n2 - (intOf i).toNat)
      case atStart => exact ⟨0, by omega, rfl, HO3.out, HL0, HB3.out⟩
      case round =>
        obtain ⟨k, hk, rfl, hO, HL, hB⟩ := hrel
        clear HO3 HB3
        have HO : Hid (GOwn wr w.heap.size _ (SpanMath.joinTo xs (ys.take k))) := hO
        have HB : Hid (Below w.heap.size w wr) := hB
        clear hO hB
        by_cases hkn : k < n2
        · have hki : (k : Int) < (n2 : Int) := by omega
          have hkc : (k : Int) < (c2 : Int) := by omega
          obtain ⟨b, off, rfl, p0, p1⟩ := HC.out k hkn wr HB.out
          have HS2 : Hid _ := HS.out k hkn
          have HL2 : Hid ((SpanMath.joinTo xs (ys.take (k + 1))).length ≤ 1000000000 + (k + 1)) := by
            show _ ≤ _; rw [HS2.out]; have := SpanMath.add_len (SpanMath.joinTo xs (ys.take k)) (ys[k]?.getD SpanMath.zero); have := HL.out; omega
          have HAdd : Hid _ := add_own (ys[k]?.getD SpanMath.zero) HO.out (HRk.out k) (HFk.out k hkn) (by have := HL.out; omega)
          generalize ys[k]?.getD SpanMath.zero = d at *
          unfold rgV at HAdd
          go_wp2_with fail
          refine Calls.mono HAdd.out ?_
          rintro e w4 ⟨v4, rfl, hown4, hb4⟩
          have HO4 : Hid (GOwn w4 w.heap.size v4 (SpanMath.joinTo xs (ys.take (k + 1)))) := by rw [HS2.out]; exact GOwn.mono hown4 HB.out.size
          have HB4 : Hid (Below w.heap.size w w4) := HB.out.trans (hb4.mono HB.out.size)
          clear hown4 hb4 HO HB HAdd p0 p1
          go_wp2
          go_roundw
          case rel => exact ⟨k + 1, by omega, by go_num, HO4.out, HL2, HB4.out⟩
          case measure => simp [intOf]; omega
        · have hkk : k = n2 := by omega
          have hdk : decide ((k : Int) < (n2 : Int)) = false := by simp; omega
          have HO5 := HO
          rw [hkk, ← HJ.out] at HO5
          clear hkk HO
          go_wp2
          go_ret
          exact ⟨_, rfl, HO5.out, HB.out⟩

set_option maxHeartbeats 8000000 in
theorem refSpanOf_any (a : Option Addr) (zs : List Int) (cap : Nat) (w : World) (hr : Row .i64 w a zs) (hc : zs.length ≤ cap) (hm : cap ≤ maxLen) (hl : zs.length ≤ 1000000000) :
    Calls Try.prog 25 #[.slice a zs.length cap] w fun e w' => ∃ v, e = .returned v ∧ GOwn w' w.heap.size v (SpanMath.ofTo zs) ∧ Below w.heap.size w w' := by
  unfold maxLen at hm
  have HS : Hid (∀ k, k < zs.length → SpanMath.ofTo (zs.take (k + 1)) = if 1 ≤ zs[k]?.getD 0 ∧ zs[k]?.getD 0 ≤ 1099511627775 then SpanMath.add (SpanMath.ofTo (zs.take k)) ⟨zs[k]?.getD 0, zs[k]?.getD 0⟩ else SpanMath.ofTo (zs.take k)) := fun k hk => by
    rw [List.take_succ_eq_append_getElem hk, SpanMath.ofTo_snoc]; simp [hk]
  have HR : Hid (∀ k, SpanMath.R (SpanMath.ofTo (zs.take k))) := fun k => SpanMath.ofTo_R _
  have HE : Hid (SpanMath.ofTo (zs.take zs.length) = SpanMath.ofTo zs) := by show _ = _; rw [List.take_of_length_le (Nat.le_refl _)]
  have HC : Hid (∀ k, k < zs.length → ∀ w', Below w.heap.size w w' → ∃ b off, a = some ⟨b, off, none⟩ ∧ w'.cell? ⟨b, off + k, none⟩ = some (.int .i64 (zs[k]?.getD 0))) := fun k hk w' hB => by
    rcases hr.later hB with h | ⟨b, off, ha, hcell⟩
    · rw [h] at hk; simp at hk
    · exact ⟨b, off, ha, hcell k hk⟩
  obtain ⟨n, hn⟩ : ∃ n, n = zs.length := ⟨_, rfl⟩
  rw [← hn] at hc hl HS HE HC ⊢
  clear hn hr
  go_enter Try.func25, Try.ntmps25
  go_wp2
  go_loopw [3, 4] (fun v i wr => ∃ k : Nat, k ≤ n ∧ i = .int .i64 k ∧ GOwn wr w.heap.size v (SpanMath.ofTo (zs.take k)) ∧ Hid ((SpanMath.ofTo (zs.take k)).length ≤ k) ∧ Below w.heap.size w wr) (fun _ i _ => n - (intOf i).toNat)
  case atStart => exact ⟨0, by omega, rfl, GOwn.nil _ _, by simp [SpanMath.ofTo, Hid], Below.refl _ _⟩
  case round =>
    obtain ⟨k, hk, rfl, hO, HL, hB⟩ := hrel
    have HO : Hid (GOwn wr w.heap.size _ (SpanMath.ofTo (zs.take k))) := hO
    have HB : Hid (Below w.heap.size w wr) := hB
    clear hO hB
    by_cases hkn : k < n
    · have hki : (k : Int) < (n : Int) := by omega
      have hkc : (k : Int) < (cap : Int) := by omega
      obtain ⟨b, off, rfl, p0⟩ := HC.out k hkn wr HB.out
      have HS2 : Hid _ := HS.out k hkn
      have HRk : Hid _ := HR.out k
      obtain ⟨c, hcc⟩ : ∃ c, c = zs[k]?.getD 0 := ⟨_, rfl⟩
      rw [← hcc] at p0 HS2
      have HC2 : Hid (∀ w', Below w.heap.size w w' → w'.cell? ⟨b, off + k, none⟩ = some (.int .i64 c)) := fun w' hB => by
        obtain ⟨b', off', ha, h1⟩ := HC.out k hkn w' hB
        have ha' : b = b' ∧ off = off' := by simpa using ha
        obtain ⟨rfl, rfl⟩ := ha'
        rw [hcc]; exact h1
      clear hcc
      by_cases h1 : 1 ≤ c
      · by_cases h2 : c ≤ 1099511627775
        · have HS3 : Hid (SpanMath.ofTo (zs.take (k + 1)) = SpanMath.add (SpanMath.ofTo (zs.take k)) ⟨c, c⟩) := by show _ = _; rw [HS2.out, if_pos ⟨h1, h2⟩]
          have HL2 : Hid ((SpanMath.ofTo (zs.take (k + 1))).length ≤ k + 1) := by
            show _ ≤ _; rw [HS3.out]; have := SpanMath.add_len (SpanMath.ofTo (zs.take k)) ⟨c, c⟩; have := HL.out; omega
          have hfit : SpanMath.Fit ⟨c, c⟩ := by unfold SpanMath.Fit; simp only []; omega
          have HFt : Hid _ := hfit
          clear HS2 hfit
          go_upto_region 6 with (fail)
          have HOd : Hid (GOwn wr.drew w.heap.size _ (SpanMath.ofTo (zs.take k))) := ⟨HO.out.own⟩
          have HBd : Hid (Below w.heap.size w wr.drew) := HB.out.drew
          have HAdd : Hid _ := add_own ⟨c, c⟩ HOd.out HRk.out HFt.out (by have := HL.out; omega)
          unfold rgV at HAdd
          dsimp only at HAdd
          refine wp_region_held_drew (S := fun w' => w'.cell? ⟨b, off + k, none⟩ = some (.int .i64 c)) (by kernel_rfl) p0 (fun hS => ?_)
          clear p0 HO HB
          generalize wr.drew = v0 at *
          refine wpAnyH_take (i := 0) (v := ?_) rfl (by kernel_rfl) (by kernel_rfl) (by kernel_rfl) (fun _ _ _ h => h) (Or.inl ⟨by rfl, ?_⟩) hS ?_
          rotate_left 1
          · intro w hSw; (try dsimp only at hSw); go_simp <;> with_reducible rfl
          simp only [List.getElem_toArray, List.getElem_cons_zero, List.getElem_cons_succ, Act.put, List.setIfInBounds_toArray, List.set_cons_zero, List.set_cons_succ]
          refine wpAnyH_take (i := 1) (v := ?_) rfl (by kernel_rfl) (by kernel_rfl) (by kernel_rfl) (fun _ _ _ h => h) (Or.inl ⟨by rfl, ?_⟩) hS ?_
          rotate_left 1
          · intro w hSw; (try dsimp only at hSw); go_simp <;> with_reducible rfl
          simp only [List.getElem_toArray, List.getElem_cons_zero, List.getElem_cons_succ, Act.put, List.setIfInBounds_toArray, List.set_cons_zero, List.set_cons_succ]
          refine wpAnyH_take (i := 2) (v := ?_) rfl (by kernel_rfl) (by kernel_rfl) (by kernel_rfl) (fun _ _ _ h => h) (Or.inl ⟨by rfl, ?_⟩) hS ?_
          rotate_left 1
          · intro w hSw; (try dsimp only at hSw); go_simp <;> with_reducible rfl
          simp only [List.getElem_toArray, List.getElem_cons_zero, List.getElem_cons_succ, Act.put, List.setIfInBounds_toArray, List.set_cons_zero, List.set_cons_succ]
          refine wpAnyH_take (i := 3) (v := ?_) rfl (by kernel_rfl) (by kernel_rfl) (by kernel_rfl) (fun _ _ _ h => h) (Or.inl ⟨by rfl, ?_⟩) hS ?_
          rotate_left 1
          · intro w hSw; (try dsimp only at hSw); go_simp <;> with_reducible rfl
          simp only [List.getElem_toArray, List.getElem_cons_zero, List.getElem_cons_succ, Act.put, List.setIfInBounds_toArray, List.set_cons_zero, List.set_cons_succ]
          refine wpAnyH_take (i := 4) (v := ?_) rfl (by kernel_rfl) (by kernel_rfl) (by kernel_rfl) (fun _ _ _ h => h) (Or.inl ⟨by rfl, ?_⟩) hS ?_
          rotate_left 1
          · intro w hSw; (try dsimp only at hSw); go_simp <;> with_reducible rfl
          simp only [List.getElem_toArray, List.getElem_cons_zero, List.getElem_cons_succ, Act.put, List.setIfInBounds_toArray, List.set_cons_zero, List.set_cons_succ]
          refine wpAnyH_take (i := 5) (v := ?_) rfl (by kernel_rfl) (by kernel_rfl) (by kernel_rfl) (fun _ _ _ h => h) (Or.inl ⟨by rfl, ?_⟩) hS ?_
          rotate_left 1
          · intro w hSw; (try dsimp only at hSw); go_simp <;> with_reducible rfl
          simp only [List.getElem_toArray, List.getElem_cons_zero, List.getElem_cons_succ, Act.put, List.setIfInBounds_toArray, List.set_cons_zero, List.set_cons_succ]
          refine wpAnyH_take (i := 6) (v := ?_) rfl (by kernel_rfl) (by kernel_rfl) (by kernel_rfl) (fun _ _ _ h => h) (Or.inl ⟨by rfl, ?_⟩) hS ?_
          rotate_left 1
          · intro w hSw; (try dsimp only at hSw); go_simp <;> with_reducible rfl
          simp only [List.getElem_toArray, List.getElem_cons_zero, List.getElem_cons_succ, Act.put, List.setIfInBounds_toArray, List.set_cons_zero, List.set_cons_succ]
          refine wpAnyH_take (i := 7) (v := ?_) rfl (by kernel_rfl) (by kernel_rfl) (by kernel_rfl) (fun _ _ _ h => h) (Or.inl ⟨by rfl, ?_⟩) hS ?_
          rotate_left 1
          · intro w hSw; (try dsimp only at hSw); go_simp <;> with_reducible rfl
          simp only [List.getElem_toArray, List.getElem_cons_zero, List.getElem_cons_succ, Act.put, List.setIfInBounds_toArray, List.set_cons_zero, List.set_cons_succ]
          refine wpAnyH_take (i := 8) (v := ?_) rfl (by kernel_rfl) (by kernel_rfl) (by kernel_rfl) (fun _ _ _ h => h) (Or.inl ⟨by rfl, ?_⟩) hS ?_
          rotate_left 1
          · intro w hSw; (try dsimp only at hSw); go_simp <;> with_reducible rfl
          simp only [List.getElem_toArray, List.getElem_cons_zero, List.getElem_cons_succ, Act.put, List.setIfInBounds_toArray, List.set_cons_zero, List.set_cons_succ]
          refine wpAnyH_take (i := 9) (v := ?_) rfl (by kernel_rfl) (by kernel_rfl) (by kernel_rfl) (fun _ _ _ h => h) (Or.inl ⟨by rfl, ?_⟩) hS ?_
          rotate_left 1
          · intro w hSw; (try dsimp only at hSw); go_simp <;> with_reducible rfl
          simp only [List.getElem_toArray, List.getElem_cons_zero, List.getElem_cons_succ, Act.put, List.setIfInBounds_toArray, List.set_cons_zero, List.set_cons_succ]
          refine wpAnyH_ready (rs := [10]) (by kernel_rfl) (by simp) ?_
          refine AllReadyH.cons rfl (fun K hK => ?_) AllReadyH.nil
          go_simp
          refine Calls.mono HAdd.out ?_
          rintro e w4 ⟨v4, rfl, hown4, hb4⟩
          have HO4 : Hid (GOwn w4 w.heap.size v4 (SpanMath.ofTo (zs.take (k + 1)))) := by rw [HS3.out]; exact GOwn.mono hown4 HBd.out.size
          have HB4 : Hid (Below w.heap.size w w4) := HBd.out.trans (hb4.mono HBd.out.size)
          refine hK.out _ _ (HC2.out _ HB4.out) (fun hS => ?_)
          clear hK K hown4 hb4 HAdd HOd HBd
          refine wpAnyH_take (i := 11) (v := ?_) rfl (by kernel_rfl) (by kernel_rfl) (by kernel_rfl) (fun _ _ _ h => h) (Or.inl ⟨by rfl, ?_⟩) hS ?_
          rotate_left 1
          · intro w hSw; (try dsimp only at hSw); go_simp <;> with_reducible rfl
          simp only [List.getElem_toArray, List.getElem_cons_zero, List.getElem_cons_succ, Act.put, List.setIfInBounds_toArray, List.set_cons_zero, List.set_cons_succ]
          refine wpAnyH_done (by kernel_rfl) ?_ _
          go_wp2
          go_roundw
          case rel => exact ⟨k + 1, by omega, by go_num, HO4.out, HL2, HB4.out⟩
          case measure => simp [intOf]; omega
        · have HS3 : Hid (SpanMath.ofTo (zs.take (k + 1)) = SpanMath.ofTo (zs.take k)) := by show _ = _; rw [HS2.out, if_neg (fun h => h2 h.2)]
          have HL2 : Hid ((SpanMath.ofTo (zs.take (k + 1))).length ≤ k + 1) := by show _ ≤ _; rw [HS3.out]; have := HL.out; omega
          have HO4 := HO
          rw [← HS3.out] at HO4
          have b2 : decide (c ≤ 1099511627775) = false := decide_eq_false h2
          clear HS2
          go_wp2
          go_roundw
          case rel => exact ⟨k + 1, by omega, by go_num, HO4.out, HL2, HB.out⟩
          case measure => simp [intOf]; omega
      · have HS3 : Hid (SpanMath.ofTo (zs.take (k + 1)) = SpanMath.ofTo (zs.take k)) := by show _ = _; rw [HS2.out, if_neg (fun h => h1 h.1)]
        have HL2 : Hid ((SpanMath.ofTo (zs.take (k + 1))).length ≤ k + 1) := by show _ ≤ _; rw [HS3.out]; have := HL.out; omega
        have HO4 := HO
        rw [← HS3.out] at HO4
        have b1 : decide (1 ≤ c) = false := decide_eq_false h1
        clear HS2
        go_wp2
        go_roundw
        case rel => exact ⟨k + 1, by omega, by go_num, HO4.out, HL2, HB.out⟩
        case measure => simp [intOf]; omega
    · have hkk : k = n := by omega
      have hdk : decide ((k : Int) < (n : Int)) = false := by simp; omega
      have HO5 := HO
      rw [hkk, HE.out] at HO5
      clear hkk HO
      go_wp2
      go_ret
      exact ⟨_, rfl, HO5.out, HB.out⟩
end Go.Proofs.Ytnkjfenibgiaaaa

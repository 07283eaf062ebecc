/-
  Walk of newsreellaw9.DotTakes.
-/
import Derived.Test.YtehaeepihjookaaL9TakesM
import Derived.Deep.CutRange
namespace Go.Proofs.Ytehaeepihjookaa
open Go.RowKit NumMath
open DotMath (Dt)
set_option maxRecDepth 100000
set_option linter.unusedVariables false
set_option linter.unusedSimpArgs false

set_option maxHeartbeats 64000000 in
theorem dotTakes_walk (a0 : Option Addr) (zs : List Int) (cap0 : Nat) (d : Dt) (a2 : Option Addr) (ts : List Int) (cap2 : Nat) (n3 n4 n5 : Int) (W : World)
    (hr0 : Row .u8 W a0 zs) (hc0 : zs.length ≤ cap0) (hm0 : cap0 ≤ maxLen) (hn0 : a0 = none → cap0 = 0) (hw0 : ∀ n ∈ zs, (Lit.int .u8 n).wf = true) (hs0 : cap0 * 1 ≤ 140737488351232)
    (hfd : DotMath.Fit d)
    (hr2 : Row .u8 W a2 ts) (hc2 : ts.length ≤ cap2) (hm2 : cap2 ≤ maxLen) (hn2 : a2 = none → cap2 = 0) (hw2 : ∀ n ∈ ts, (Lit.int .u8 n).wf = true) (hs2 : cap2 * 1 ≤ 140737488351232)
    (w3 : (Lit.int .i64 n3).wf = true) (w4 : (Lit.int .u8 n4).wf = true) (w5 : (Lit.int .u8 n5).wf = true) :
    Calls Try.prog 5 #[.slice a0 zs.length cap0, dtV d, .slice a2 ts.length cap2, .int .i64 n3, .int .u8 n4, .int .u8 n5] W fun r W' => r = .returned (.bool true) ∧ Below W.heap.size W W' := by
  have hb3 := bounds_i64 w3
  have hb4 := bounds_u8 w4
  have hb5 := bounds_u8 w5
  have hzb : ∀ c ∈ zs, 0 ≤ c ∧ c ≤ 255 := fun c hc => bounds_u8 (hw0 c hc)
  have htb : ∀ c ∈ ts, 0 ≤ c ∧ c ≤ 255 := fun c hc => bounds_u8 (hw2 c hc)
  have HKn : Hid (∀ w, _) := fun w => known_any w
  have HZ : Hid (∀ w, Below W.heap.size W w → Bytes w (.slice a0 zs.length cap0) zs) := fun w hB => ⟨a0, cap0, rfl, hr0.later hB, hzb, hc0, hm0, hn0⟩
  have HT : Hid (∀ w, Below W.heap.size W w → Bytes w (.slice a2 ts.length cap2) ts) := fun w hB => ⟨a2, cap2, rfl, hr2.later hB, htb, hc2, hm2, hn2⟩
  have HDb : Hid (∀ w, _) := fun w => dotBytes_any d w
  have HRb : Hid (∀ w, _) := fun w => refDotBytes_any d w
  have HDr : Hid (∀ w, _) := fun w => dotRight_any d w
  have htl : ts.length ≤ 140737488351232 := by omega
  obtain ⟨L0, hL0⟩ : ∃ L, L = zs.length := ⟨_, rfl⟩
  obtain ⟨L2, hL2⟩ : ∃ L, L = ts.length := ⟨_, rfl⟩
  rw [← hL0] at HZ ⊢
  rw [← hL2] at HT ⊢
  have HL2 : Hid (L2 = ts.length) := hL2
  have HTl : Hid (ts.length ≤ 140737488351232) := htl
  have HTb : Hid (∀ c ∈ ts, 0 ≤ c ∧ c ≤ 255) := htb
  have hpl := DotMath.bytes_len d
  have HPz : Hid (∀ c ∈ DotMath.bytes d, 0 ≤ c ∧ c ≤ 255) := DotMath.bytes_byte d
  have HBk : Hid (DotMath.right d = true → DotMath.take (DotMath.bytes d ++ ts) = (d, ((DotMath.bytes d).length : Int), 0)) := fun h => DotMath.take_back h ts
  obtain ⟨pz, hpz⟩ : ∃ p, p = DotMath.bytes d := ⟨_, rfl⟩
  rw [← hpz] at hpl
  simp only [← hpz] at HDb HRb HPz HBk
  have HA0 : Hid (DtAt (W.alloc (.cells #[.int .i64 d.r, .int .i64 d.s] 23)) W.heap.size d) := DtAt.new W d rfl
  have HB0 : Hid (Below W.heap.size W (W.alloc (.cells #[.int .i64 d.r, .int .i64 d.s] 23))) := (Below.refl _ _).alloc (Nat.le_refl _) _
  unfold dtV at HDb HRb HDr ⊢
  clear hr0 hm0 hn0 hw0 hc0 hs0 hr2 hm2 hn2 hw2 hc2 hs2 w3 w4 w5 hzb htb hL0 hL2 htl hpz
  go_enter Try.func5, Try.ntmps5
  go_wp2_with fail
  refine Calls.mono (HKn.out _) ?_
  rintro r w1 ⟨rfl, hb1⟩
  have HA1 : Hid (DtAt w1 W.heap.size d) := dt_kept HA0.out hb1
  have HB1 : Hid (Below W.heap.size W w1) := HB0.out.trans (hb1.mono HB0.out.size)
  clear hb1 HKn HA0 HB0
  obtain ⟨x0, x1⟩ := HA1.out.cells
  go_wp2_with fail
  refine Calls.mono (HDb.out _) ?_
  rintro r w2 ⟨p, rfl, hp, hb2⟩
  obtain ⟨ap, lp, cp, rfl, hlp, hp2⟩ := bytes_shape hp
  have HLp : Hid (lp = pz.length) := hlp
  have HP : Hid (Bytes w2 (.slice ap lp cp) pz) := hp2
  have HA2 : Hid (DtAt w2 W.heap.size d) := dt_kept HA1.out hb2
  have HB2 : Hid (Below W.heap.size W w2) := HB1.out.trans (hb2.mono HB1.out.size)
  clear hb2 HA1 HB1 x0 x1 hp hp2 hlp
  obtain ⟨g7, hg7⟩ : ∃ g, g = W.heap.size := ⟨_, rfl⟩
  rw [← hg7] at HA2
  rw [← hg7]
  have HG7 : Hid (g7 = W.heap.size) := hg7
  clear hg7
  go_upto_region 4 with (fail)
  have HPd : Hid (Bytes w2.drew (.slice ap lp cp) pz) := bytes_drew HP.out
  have HAd : Hid (DtAt w2.drew g7 d) := HA2.out.drew
  have HBd : Hid (Below W.heap.size W w2.drew) := HB2.out.drew
  obtain ⟨x0, x1⟩ := HAd.out.cells
  have xp := bytes_text HPd.out
  refine wp_region_held_drew (S := fun w' => w'.cell? ⟨g7, 0, none⟩ = some (.int .i64 d.r) ∧ w'.cell? ⟨g7, 1, none⟩ = some (.int .i64 d.s) ∧ (convert 34 9 (.slice ap lp cp)).run Try.prog w' = .ok (.string (strOfNums pz)) w') (by kernel_rfl) ⟨x0, x1, xp⟩ (fun hS => ?_)
  clear HP HA2 HB2 x0 x1 xp
  generalize w2.drew = v0 at *
  refine wpAnyH_take (i := 0) (v := ?_) rfl (by kernel_rfl) (by kernel_rfl) (by kernel_rfl) (fun _ _ _ h => h) (Or.inl ⟨by rfl, ?_⟩) hS ?_
  rotate_left 1
  · intro w hSw; (try dsimp only at hSw); go_simp <;> with_reducible rfl
  simp only [List.getElem_toArray, List.getElem_cons_zero, List.getElem_cons_succ, Act.put, List.setIfInBounds_toArray, List.set_cons_zero, List.set_cons_succ]
  refine wpAnyH_take (i := 1) (v := ?_) rfl (by kernel_rfl) (by kernel_rfl) (by kernel_rfl) (fun _ _ _ h => h) (Or.inl ⟨by rfl, ?_⟩) hS ?_
  rotate_left 1
  · intro w hSw; (try dsimp only at hSw); go_simp <;> with_reducible rfl
  simp only [List.getElem_toArray, List.getElem_cons_zero, List.getElem_cons_succ, Act.put, List.setIfInBounds_toArray, List.set_cons_zero, List.set_cons_succ]
  refine wpAnyH_take (i := 2) (v := ?_) rfl (by kernel_rfl) (by kernel_rfl) (by kernel_rfl) (fun _ _ _ h => h) (Or.inl ⟨by rfl, ?_⟩) hS ?_
  rotate_left 1
  · intro w hSw; (try dsimp only at hSw); go_simp <;> with_reducible rfl
  simp only [List.getElem_toArray, List.getElem_cons_zero, List.getElem_cons_succ, Act.put, List.setIfInBounds_toArray, List.set_cons_zero, List.set_cons_succ]
  refine wpAnyH_ready (rs := [3]) (by kernel_rfl) (by simp) ?_
  refine AllReadyH.cons rfl (fun K hK => ?_) AllReadyH.nil
  go_simp
  refine Calls.mono (HRb.out _) ?_
  rintro r w3 ⟨x2, rfl, hby2, hbx⟩
  have HA3 : Hid (DtAt w3 g7 d) := dt_kept HAd.out hbx
  have HB3 : Hid (Below W.heap.size W w3) := HBd.out.trans (hbx.mono HBd.out.size)
  have HP3 : Hid (Bytes w3 (.slice ap lp cp) pz) := bytes_later HPd.out hbx
  obtain ⟨x0, x1⟩ := HA3.out.cells
  have xp := bytes_text HP3.out
  refine hK.out _ _ ⟨x0, x1, xp⟩ (fun hS => ?_)
  clear hK K hbx HPd HAd HBd HRb
  have hst := bytes_text hby2
  clear hby2 x0 x1 xp
  refine wpAnyH_weaken (S2 := fun w' => (w'.cell? ⟨g7, 0, none⟩ = some (.int .i64 d.r) ∧ w'.cell? ⟨g7, 1, none⟩ = some (.int .i64 d.s) ∧ (convert 34 9 (.slice ap lp cp)).run Try.prog w' = .ok (.string (strOfNums pz)) w') ∧ (convert 34 9 x2).run Try.prog w' = .ok (.string (strOfNums pz)) w') (fun w h => h.1) _ _ _ _ ?_
  have hS : _ := And.intro hS hst
  have heq2 : ((strOfNums pz).toList == (strOfNums pz).toList) = true := by simp
  refine wpAnyH_take (i := 4) (v := ?_) rfl (by kernel_rfl) (by kernel_rfl) (by kernel_rfl) (fun _ _ _ h => h) (Or.inl ⟨by rfl, ?_⟩) hS ?_
  rotate_left 1
  · intro w hSw; (try dsimp only at hSw); go_simp <;> with_reducible rfl
  simp only [List.getElem_toArray, List.getElem_cons_zero, List.getElem_cons_succ, Act.put, List.setIfInBounds_toArray, List.set_cons_zero, List.set_cons_succ]
  refine wpAnyH_take (i := 5) (v := ?_) rfl (by kernel_rfl) (by kernel_rfl) (by kernel_rfl) (fun _ _ _ h => h) (Or.inl ⟨by rfl, ?_⟩) hS ?_
  rotate_left 1
  · intro w hSw; (try dsimp only at hSw); go_simp <;> with_reducible rfl
  simp only [List.getElem_toArray, List.getElem_cons_zero, List.getElem_cons_succ, Act.put, List.setIfInBounds_toArray, List.set_cons_zero, List.set_cons_succ]
  refine wpAnyH_done (by kernel_rfl) ?_ _
  clear hS hst
  have HZ3 : Hid (∀ w, Below w3.heap.size w3 w → Bytes w (.slice a0 L0 cap0) zs) := fun w hB => HZ.out w (HB3.out.trans (hB.mono HB3.out.size))
  have HT3 : Hid (∀ w, Below w3.heap.size w3 w → Bytes w (.slice a2 L2 cap2) ts) := fun w hB => HT.out w (HB3.out.trans (hB.mono HB3.out.size))
  have HPB : Hid (∀ w, Below w3.heap.size w3 w → Bytes w (.slice ap lp cp) pz) := fun w hB => bytes_later HP3.out hB
  have HAB : Hid (∀ w, Below w3.heap.size w3 w → DtAt w g7 d) := fun w hB => dt_kept HA3.out hB
  have HCh : Hid (∀ w, Below w3.heap.size w3 w → Calls Try.prog 18 #[.slice ap lp cp, .int .i64 n3, .int .u8 n4, .int .u8 n5] w fun e w' => ∃ v, e = .returned v ∧ ∃ ys, Bytes w' v ys ∧ ys.length ≤ lp + 1 ∧ Below w.heap.size w w') := fun w hB => by
    obtain ⟨a, c, hv, hr, hbb, hc, hm, hn⟩ := bytes_later HP3.out hB
    simp only [Value.slice.injEq] at hv
    obtain ⟨rfl, rfl, rfl⟩ := hv
    exact changed_any ap pz cp n3 n4 n5 w hr hbb hc hm hn (by omega) hb3.1 hb3.2 hb4 hb5
  obtain ⟨sq, hsq⟩ : ∃ s, s = IntKind.u64.wrap d.s := ⟨_, rfl⟩
  have esq : IntKind.u64.wrap d.s = sq := hsq.symm
  have hsq2 : 0 ≤ sq ∧ sq ≤ 18446744073709551615 := by rw [hsq, IntKind.wrap_u64]; omega
  have HSq : Hid (0 ≤ sq ∧ sq ≤ 18446744073709551615) := hsq2
  clear HZ HT HP3 HA3 hsq hsq2
  go_upto_region 6 with (fail)
  go_cut [52, 53, 54] from 35 to 54 (fun x52 x53 x54 wx => x53 = .int .i64 4 ∧ x54 = .int .i64 0 ∧ Below w3.heap.size w3 wx ∧ ∃ G, x52 = .slice (some ⟨G, 0, none⟩) 4 4 ∧ Four wx G)
  case first =>
    have HCell : Hid (∀ w', Below w3.heap.size w3 w' → w'.cell? ⟨g7, 1, none⟩ = some (.int .i64 d.s)) := fun w' hB => (HAB.out w' hB).cells.2
    have h0 : ∀ (ac : Act) (l : Array Bool) (w : World), 133 ≤ ac.tmps.size → l.getD 2 false = false → l.getD 4 false = false → l.getD 9 false = false → l.getD 11 false = false → l.getD 13 false = false → l.getD 14 false = false → l.getD 15 false = false → l.getD 16 false = false → l.getD 17 false = false → l.getD 18 false = false → Below w3.heap.size w3 w → (fun ac' l ac w => ∃ x37 x39 x44 x46 x48 x49 x50 x51 x52 x53, ac = ((((((((((ac'.put (some 37) x37).put (some 39) x39).put (some 44) x44).put (some 46) x46).put (some 48) x48).put (some 49) x49).put (some 50) x50).put (some 51) x51).put (some 52) x52).put (some 53) x53) ∧ RJ w3 pz (pz ++ ts) (.int .u8 n4) (.int .u64 sq) 38 (l.getD 2 false) (l.getD 4 false) (l.getD 9 false) (l.getD 11 false) (l.getD 15 false) (l.getD 16 false) (l.getD 17 false) w x37 x39 x44 x46 x50 x51 x52 ∧ (l.getD 13 false = true → x48 = .int .i64 d.s) ∧ (l.getD 14 false = true → x49 = .int .u64 sq) ∧ (l.getD 18 false = true → x53 = .int .i64 4)) ac l ac w := by
      intro ac l w hsz n2 n4 n9 n11 n13 n14 n15 n16 n17 n18 hB
      refine ⟨ac.tmps.getD 37 undef, ac.tmps.getD 39 undef, ac.tmps.getD 44 undef, ac.tmps.getD 46 undef, ac.tmps.getD 48 undef, ac.tmps.getD 49 undef, ac.tmps.getD 50 undef, ac.tmps.getD 51 undef, ac.tmps.getD 52 undef, ac.tmps.getD 53 undef, by rw [put_self ac 37 (by omega), put_self ac 39 (by omega), put_self ac 44 (by omega), put_self ac 46 (by omega), put_self ac 48 (by omega), put_self ac 49 (by omega), put_self ac 50 (by omega), put_self ac 51 (by omega), put_self ac 52 (by omega), put_self ac 53 (by omega)], ?_, not_up n13, not_up n14, not_up n18⟩
      rw [n2, n4, n9, n11, n15, n16, n17]
      exact RJ.init hB
    refine wp_region_held_drew (S := fun _ => True) (by kernel_rfl) trivial (fun hS => ?_)
    refine wpAnyH_take (i := 0) (v := ?_) rfl (by kernel_rfl) (by kernel_rfl) (by kernel_rfl) (fun _ _ _ h => h) (Or.inl ⟨by rfl, ?_⟩) hS ?_
    rotate_left 1
    · intro w hSw; (try dsimp only at hSw); go_simp <;> with_reducible rfl
    simp only [List.getElem_toArray, List.getElem_cons_zero, List.getElem_cons_succ, Act.put, List.setIfInBounds_toArray, List.set_cons_zero, List.set_cons_succ]
    refine wpAnyH_take (i := 1) (v := ?_) rfl (by kernel_rfl) (by kernel_rfl) (by kernel_rfl) (fun _ _ _ h => h) (Or.inl ⟨by rfl, ?_⟩) hS ?_
    rotate_left 1
    · intro w hSw; (try dsimp only at hSw); go_simp <;> with_reducible rfl
    simp only [List.getElem_toArray, List.getElem_cons_zero, List.getElem_cons_succ, Act.put, List.setIfInBounds_toArray, List.set_cons_zero, List.set_cons_succ]
    refine wpAnyH_take (i := 3) (v := ?_) rfl (by kernel_rfl) (by kernel_rfl) (by kernel_rfl) (fun _ _ _ h => h) (Or.inl ⟨by rfl, ?_⟩) hS ?_
    rotate_left 1
    · intro w hSw; (try dsimp only at hSw); go_simp <;> with_reducible rfl
    simp only [List.getElem_toArray, List.getElem_cons_zero, List.getElem_cons_succ, Act.put, List.setIfInBounds_toArray, List.set_cons_zero, List.set_cons_succ]
    refine wpAnyH_take (i := 5) (v := ?_) rfl (by kernel_rfl) (by kernel_rfl) (by kernel_rfl) (fun _ _ _ h => h) (Or.inl ⟨by rfl, ?_⟩) hS ?_
    rotate_left 1
    · intro w hSw; (try dsimp only at hSw); go_simp <;> with_reducible rfl
    simp only [List.getElem_toArray, List.getElem_cons_zero, List.getElem_cons_succ, Act.put, List.setIfInBounds_toArray, List.set_cons_zero, List.set_cons_succ]
    refine wpAnyH_take (i := 6) (v := ?_) rfl (by kernel_rfl) (by kernel_rfl) (by kernel_rfl) (fun _ _ _ h => h) (Or.inl ⟨by rfl, ?_⟩) hS ?_
    rotate_left 1
    · intro w hSw; (try dsimp only at hSw); go_simp <;> with_reducible rfl
    simp only [List.getElem_toArray, List.getElem_cons_zero, List.getElem_cons_succ, Act.put, List.setIfInBounds_toArray, List.set_cons_zero, List.set_cons_succ]
    refine wpAnyH_take (i := 7) (v := ?_) rfl (by kernel_rfl) (by kernel_rfl) (by kernel_rfl) (fun _ _ _ h => h) (Or.inl ⟨by rfl, ?_⟩) hS ?_
    rotate_left 1
    · intro w hSw; (try dsimp only at hSw); go_simp <;> with_reducible rfl
    simp only [List.getElem_toArray, List.getElem_cons_zero, List.getElem_cons_succ, Act.put, List.setIfInBounds_toArray, List.set_cons_zero, List.set_cons_succ]
    refine wpAnyH_take (i := 8) (v := ?_) rfl (by kernel_rfl) (by kernel_rfl) (by kernel_rfl) (fun _ _ _ h => h) (Or.inl ⟨by rfl, ?_⟩) hS ?_
    rotate_left 1
    · intro w hSw; (try dsimp only at hSw); go_simp <;> with_reducible rfl
    simp only [List.getElem_toArray, List.getElem_cons_zero, List.getElem_cons_succ, Act.put, List.setIfInBounds_toArray, List.set_cons_zero, List.set_cons_succ]
    refine wpAnyH_take (i := 10) (v := ?_) rfl (by kernel_rfl) (by kernel_rfl) (by kernel_rfl) (fun _ _ _ h => h) (Or.inl ⟨by rfl, ?_⟩) hS ?_
    rotate_left 1
    · intro w hSw; (try dsimp only at hSw); go_simp <;> with_reducible rfl
    simp only [List.getElem_toArray, List.getElem_cons_zero, List.getElem_cons_succ, Act.put, List.setIfInBounds_toArray, List.set_cons_zero, List.set_cons_succ]
    refine wpAnyH_take (i := 12) (v := ?_) rfl (by kernel_rfl) (by kernel_rfl) (by kernel_rfl) (fun _ _ _ h => h) (Or.inl ⟨by rfl, ?_⟩) hS ?_
    rotate_left 1
    · intro w hSw; (try dsimp only at hSw); go_simp <;> with_reducible rfl
    simp only [List.getElem_toArray, List.getElem_cons_zero, List.getElem_cons_succ, Act.put, List.setIfInBounds_toArray, List.set_cons_zero, List.set_cons_succ]
    refine wpAnyH_take (i := 19) (v := ?_) rfl (by kernel_rfl) (by kernel_rfl) (by kernel_rfl) (fun _ _ _ h => h) (Or.inl ⟨by rfl, ?_⟩) hS ?_
    rotate_left 1
    · intro w hSw; (try dsimp only at hSw); go_simp <;> with_reducible rfl
    simp only [List.getElem_toArray, List.getElem_cons_zero, List.getElem_cons_succ, Act.put, List.setIfInBounds_toArray, List.set_cons_zero, List.set_cons_succ]
    refine wpAnyH_invN_at (Rel := fun ac' l ac w => ∃ x37 x39 x44 x46 x48 x49 x50 x51 x52 x53, ac = ((((((((((ac'.put (some 37) x37).put (some 39) x39).put (some 44) x44).put (some 46) x46).put (some 48) x48).put (some 49) x49).put (some 50) x50).put (some 51) x51).put (some 52) x52).put (some 53) x53) ∧ RJ w3 pz (pz ++ ts) (.int .u8 n4) (.int .u64 sq) 38 (l.getD 2 false) (l.getD 4 false) (l.getD 9 false) (l.getD 11 false) (l.getD 15 false) (l.getD 16 false) (l.getD 17 false) w x37 x39 x44 x46 x50 x51 x52 ∧ (l.getD 13 false = true → x48 = .int .i64 d.s) ∧ (l.getD 14 false = true → x49 = .int .u64 sq) ∧ (l.getD 18 false = true → x53 = .int .i64 4)) (rs := [2, 4, 9, 11, 13, 14, 15, 16, 17, 18]) (by kernel_rfl) (by kernel_rfl) (by kernel_rfl) (of_decide_eq_true (by kernel_rfl)) ?_ ?_ ?_
    · exact h0 _ _ _ (of_decide_eq_true (by kernel_rfl)) (by kernel_rfl) (by kernel_rfl) (by kernel_rfl) (by kernel_rfl) (by kernel_rfl) (by kernel_rfl) (by kernel_rfl) (by kernel_rfl) (by kernel_rfl) (by kernel_rfl) (Below.refl _ _).drew
    · simp only [Act.put, List.setIfInBounds_toArray, List.set_cons_zero, List.set_cons_succ]
      refine InvStepsN.cons rfl (fun l ac w hsz hni hI hdep K hK => ?_) (InvStepsN.cons rfl (fun l ac w hsz hni hI hdep K hK => ?_) (InvStepsN.cons rfl (fun l ac w hsz hni hI hdep K hK => ?_) (InvStepsN.cons rfl (fun l ac w hsz hni hI hdep K hK => ?_) (InvStepsN.cons rfl (fun l ac w hsz hni hI hdep K hK => ?_) (InvStepsN.cons rfl (fun l ac w hsz hni hI hdep K hK => ?_) (InvStepsN.cons rfl (fun l ac w hsz hni hI hdep K hK => ?_) (InvStepsN.cons rfl (fun l ac w hsz hni hI hdep K hK => ?_) (InvStepsN.cons rfl (fun l ac w hsz hni hI hdep K hK => ?_) (InvStepsN.cons rfl (fun l ac w hsz hni hI hdep K hK => ?_) (InvStepsN.nil))))))))))
      · obtain ⟨x37, x39, x44, x46, x48, x49, x50, x51, x52, x53, rfl, hRI, h13, h14, h18⟩ := hI
        rw [hni] at hRI
        rw [if_pos (by rfl)]
        refine wp_app_any (.const (.slice none 0 0)) (.tmp 36) rfl w.heap.size (.slice none 0 0) [] rfl (BOwn.nil _ _) (.slice ap lp cp) pz rfl (HPB.out _ (RJ.bel hRI)) (by simp; omega) (Nat.le_refl _) ?_
        intro y v hown hgrow
        rw [List.nil_append] at hown
        have hbl : Below w.heap.size w v := (Below.refl _ _).grown hgrow (Nat.le_refl _) (fun k hk => by cases hk)
        refine hK.out _ _ ⟨y, x39, x44, x46, x48, x49, x50, x51, x52, x53, rfl, ?_, fun h => h13 (up_keep h (by decide)), fun h => h14 (up_keep h (by decide)), fun h => h18 (up_keep h (by decide))⟩
        rw [set_self (by rw [hsz]; decide), set_other (i := 2) (j := 4) (by decide), set_other (i := 2) (j := 9) (by decide), set_other (i := 2) (j := 11) (by decide), set_other (i := 2) (j := 15) (by decide), set_other (i := 2) (j := 16) (by decide), set_other (i := 2) (j := 17) (by decide)]
        exact RJ.set2 hRI hbl hown
      · obtain ⟨x37, x39, x44, x46, x48, x49, x50, x51, x52, x53, rfl, hRI, h13, h14, h18⟩ := hI
        have d2 := hdep { on := 2, ground := .data } (by simp) rfl
        rw [d2, hni] at hRI
        obtain ⟨B, ho, hB, hB3⟩ := (RJ.h2 hRI rfl).1 rfl
        rw [if_pos (by rfl)]
        refine wp_app_any (.tmp 37) (.tmp 38) rfl B x37 pz rfl ho (.slice a2 L2 cap2) ts rfl (HT3.out _ (RJ.bel hRI)) (by have := HTl.out; omega) hB ?_
        intro y v hown hgrow
        have hy : Bytes v y (pz ++ ts) := bytes_of_own hown (fun c hc => (List.mem_append.1 hc).elim (HPz.out c) (HTb.out c))
        refine hK.out _ _ ⟨x37, y, x44, x46, x48, x49, x50, x51, x52, x53, rfl, ?_, fun h => h13 (up_keep h (by decide)), fun h => h14 (up_keep h (by decide)), fun h => h18 (up_keep h (by decide))⟩
        rw [set_other (i := 4) (j := 2) (by decide), set_self (by rw [hsz]; decide), set_other (i := 4) (j := 9) (by decide), set_other (i := 4) (j := 11) (by decide), set_other (i := 4) (j := 15) (by decide), set_other (i := 4) (j := 16) (by decide), set_other (i := 4) (j := 17) (by decide), d2]
        exact RJ.set4 hRI hgrow hy
      · obtain ⟨x37, x39, x44, x46, x48, x49, x50, x51, x52, x53, rfl, hRI, h13, h14, h18⟩ := hI
        have d4 := hdep { on := 4, ground := .chain } (by simp) rfl
        rw [d4] at hRI
        have HRI : Hid _ := hRI
        have H13 : Hid _ := h13
        have H14 : Hid _ := h14
        have H18 : Hid _ := h18
        have HSZ : Hid _ := hsz
        have HD4 : Hid _ := d4
        clear hRI h13 h14 h18 hsz hdep hni d4
        go_simp
        refine Calls.mono (HCh.out _ (RJ.bel HRI.out)) ?_
        rintro r v ⟨y, rfl, ys, hby, _, hbl⟩
        have hRI := HRI.out
        have h13 := H13.out
        have h14 := H14.out
        have h18 := H18.out
        have hsz := HSZ.out
        refine hK.out _ _ ⟨x37, x39, y, x46, x48, x49, x50, x51, x52, x53, rfl, ?_, fun h => h13 (up_keep h (by decide)), fun h => h14 (up_keep h (by decide)), fun h => h18 (up_keep h (by decide))⟩
        rw [set_other (i := 9) (j := 2) (by decide), set_other (i := 9) (j := 4) (by decide), set_self (by rw [hsz]; decide), set_other (i := 9) (j := 11) (by decide), set_other (i := 9) (j := 15) (by decide), set_other (i := 9) (j := 16) (by decide), set_other (i := 9) (j := 17) (by decide), HD4.out]
        exact RJ.set9 hRI hbl hby
      · obtain ⟨x37, x39, x44, x46, x48, x49, x50, x51, x52, x53, rfl, hRI, h13, h14, h18⟩ := hI
        have HRI : Hid _ := hRI
        have H13 : Hid _ := h13
        have H14 : Hid _ := h14
        have H18 : Hid _ := h18
        have HSZ : Hid _ := hsz
        clear hRI h13 h14 h18 hsz hdep hni
        go_simp
        have hRI := HRI.out
        have h13 := H13.out
        have h14 := H14.out
        have h18 := H18.out
        have hsz := HSZ.out
        refine hK.out _ _ ⟨x37, x39, x44, .slice (some ⟨w.heap.size, 0, none⟩) 1 1, x48, x49, x50, x51, x52, x53, rfl, ?_, fun h => h13 (up_keep h (by decide)), fun h => h14 (up_keep h (by decide)), fun h => h18 (up_keep h (by decide))⟩
        rw [set_other (i := 11) (j := 2) (by decide), set_other (i := 11) (j := 4) (by decide), set_other (i := 11) (j := 9) (by decide), set_self (by rw [hsz]; decide), set_other (i := 11) (j := 15) (by decide), set_other (i := 11) (j := 16) (by decide), set_other (i := 11) (j := 17) (by decide)]
        exact RJ.lit11 hRI
      · obtain ⟨x37, x39, x44, x46, x48, x49, x50, x51, x52, x53, rfl, hRI, h13, h14, h18⟩ := hI
        have hcl := HCell.out _ (RJ.bel hRI)
        have HRI : Hid _ := hRI
        have H13 : Hid _ := h13
        have H14 : Hid _ := h14
        have H18 : Hid _ := h18
        have HSZ : Hid _ := hsz
        clear hRI h13 h14 h18 hsz hdep hni
        go_simp
        have hRI := HRI.out
        have h13 := H13.out
        have h14 := H14.out
        have h18 := H18.out
        have hsz := HSZ.out
        refine hK.out _ _ ⟨x37, x39, x44, x46, .int .i64 d.s, x49, x50, x51, x52, x53, rfl, ?_, fun _ => rfl, fun h => h14 (up_keep h (by decide)), fun h => h18 (up_keep h (by decide))⟩
        rw [set_other (i := 13) (j := 2) (by decide), set_other (i := 13) (j := 4) (by decide), set_other (i := 13) (j := 9) (by decide), set_other (i := 13) (j := 11) (by decide), set_other (i := 13) (j := 15) (by decide), set_other (i := 13) (j := 16) (by decide), set_other (i := 13) (j := 17) (by decide)]
        exact hRI
      · obtain ⟨x37, x39, x44, x46, x48, x49, x50, x51, x52, x53, rfl, hRI, h13, h14, h18⟩ := hI
        have d13 := hdep { on := 13, ground := .data } (by simp) rfl
        obtain rfl := h13 d13
        have HRI : Hid _ := hRI
        have H13 : Hid _ := h13
        have H14 : Hid _ := h14
        have H18 : Hid _ := h18
        have HSZ : Hid _ := hsz
        have HD13 : Hid _ := d13
        clear hRI h13 h14 h18 hsz hdep hni d13
        go_simp
        have hRI := HRI.out
        have h13 := H13.out
        have h14 := H14.out
        have h18 := H18.out
        have hsz := HSZ.out
        refine hK.out _ _ ⟨x37, x39, x44, x46, .int .i64 d.s, .int .u64 sq, x50, x51, x52, x53, rfl, ?_, fun _ => rfl, fun _ => rfl, fun h => h18 (up_keep h (by decide))⟩
        rw [set_other (i := 14) (j := 2) (by decide), set_other (i := 14) (j := 4) (by decide), set_other (i := 14) (j := 9) (by decide), set_other (i := 14) (j := 11) (by decide), set_other (i := 14) (j := 15) (by decide), set_other (i := 14) (j := 16) (by decide), set_other (i := 14) (j := 17) (by decide)]
        exact hRI
      · obtain ⟨x37, x39, x44, x46, x48, x49, x50, x51, x52, x53, rfl, hRI, h13, h14, h18⟩ := hI
        have d14 := hdep { on := 14, ground := .data } (by simp) rfl
        obtain rfl := h14 d14
        have HRI : Hid _ := hRI
        have H13 : Hid _ := h13
        have H14 : Hid _ := h14
        have H18 : Hid _ := h18
        have HSZ : Hid _ := hsz
        have HD14 : Hid _ := d14
        clear hRI h13 h14 h18 hsz hdep hni d14
        go_simp
        have hRI := HRI.out
        have h13 := H13.out
        have h14 := H14.out
        have h18 := H18.out
        have hsz := HSZ.out
        refine hK.out _ _ ⟨x37, x39, x44, x46, x48, .int .u64 sq, .slice (some ⟨w.heap.size, 0, none⟩) 1 1, x51, x52, x53, rfl, ?_, fun h => h13 (up_keep h (by decide)), fun _ => rfl, fun h => h18 (up_keep h (by decide))⟩
        rw [set_other (i := 15) (j := 2) (by decide), set_other (i := 15) (j := 4) (by decide), set_other (i := 15) (j := 9) (by decide), set_other (i := 15) (j := 11) (by decide), set_self (by rw [hsz]; decide), set_other (i := 15) (j := 16) (by decide), set_other (i := 15) (j := 17) (by decide)]
        exact RJ.lit15 hRI
      · obtain ⟨x37, x39, x44, x46, x48, x49, x50, x51, x52, x53, rfl, hRI, h13, h14, h18⟩ := hI
        have d11 := hdep { on := 11, ground := .data } (by simp) rfl
        have d15 := hdep { on := 15, ground := .data } (by simp) rfl
        have d9 := hdep { on := 9, ground := .chain } (by simp) rfl
        rw [d11, d15, d9] at hRI
        obtain ⟨g11, rfl, hA11, _⟩ := (RJ.h11 hRI rfl).ex
        obtain ⟨g15, rfl, hA15, _⟩ := (RJ.h15 hRI rfl).ex
        have HPu : Hid _ := refPut_on (.slice (some ⟨g11, 0, none⟩) 1 1) [n4] g15 sq w (lit_bytes hA11 hb4) hA15 HSq.out.1 HSq.out.2 (by simp)
        clear hA11 hA15
        have HRI : Hid _ := hRI
        have H13 : Hid _ := h13
        have H14 : Hid _ := h14
        have H18 : Hid _ := h18
        have HSZ : Hid _ := hsz
        have HD11 : Hid _ := d11
        have HD15 : Hid _ := d15
        have HD9 : Hid _ := d9
        clear hRI h13 h14 h18 hsz hdep hni d11 d15 d9
        go_simp
        refine Calls.mono HPu.out ?_
        rintro r v ⟨y, rfl, hown, hbb, hbl⟩
        have hy := bytes_of_own hown hbb
        have hRI := HRI.out
        have h13 := H13.out
        have h14 := H14.out
        have h18 := H18.out
        have hsz := HSZ.out
        refine hK.out _ _ ⟨x37, x39, x44, .slice (some ⟨g11, 0, none⟩) 1 1, x48, x49, .slice (some ⟨g15, 0, none⟩) 1 1, y, x52, x53, rfl, ?_, fun h => h13 (up_keep h (by decide)), fun h => h14 (up_keep h (by decide)), fun h => h18 (up_keep h (by decide))⟩
        rw [set_other (i := 16) (j := 2) (by decide), set_other (i := 16) (j := 4) (by decide), set_other (i := 16) (j := 9) (by decide), set_other (i := 16) (j := 11) (by decide), set_other (i := 16) (j := 15) (by decide), set_self (by rw [hsz]; decide), set_other (i := 16) (j := 17) (by decide), HD11.out, HD15.out, HD9.out]
        exact RJ.set16 hRI hbl hy
      · obtain ⟨x37, x39, x44, x46, x48, x49, x50, x51, x52, x53, rfl, hRI, h13, h14, h18⟩ := hI
        have d4 := hdep { on := 4, ground := .data } (by simp) rfl
        have d9 := hdep { on := 9, ground := .data } (by simp) rfl
        have d16 := hdep { on := 16, ground := .data } (by simp) rfl
        rw [d4, d9, d16] at hRI
        obtain ⟨y44, hy44⟩ := RJ.h9 hRI rfl
        obtain ⟨y51, hy51⟩ := RJ.h16 hRI rfl
        obtain ⟨a39, l39, c39, rfl, hl39, h39⟩ := bytes_shape (RJ.h4 hRI rfl)
        obtain ⟨a44, l44, c44, rfl, hl44, h44⟩ := bytes_shape hy44
        obtain ⟨a51, l51, c51, rfl, hl51, h51⟩ := bytes_shape hy51
        have hbl : Below w.heap.size w (w.alloc (.cells #[.slice a0 L0 cap0, .slice a39 l39 c39, .slice a44 l44 c44, .slice a51 l51 c51] 34)) := (Below.refl _ _).alloc (Nat.le_refl _) _
        have HG : Hid (Arr (w.alloc (.cells #[.slice a0 L0 cap0, .slice a39 l39 c39, .slice a44 l44 c44, .slice a51 l51 c51] 34)) w.heap.size 34 [.slice a0 L0 cap0, .slice a39 l39 c39, .slice a44 l44 c44, .slice a51 l51 c51]) := Arr.new w _ _ rfl
        have HF : Hid (Four (w.alloc (.cells #[.slice a0 L0 cap0, .slice a39 l39 c39, .slice a44 l44 c44, .slice a51 l51 c51] 34)) w.heap.size) := fun m hm => by
          match m, hm with
          | 0, _ => exact ⟨_, _, Arr.cell HG.out 0, HZ3.out _ (RJ.bel (RJ.below hRI hbl))⟩
          | 1, _ => exact ⟨_, _, Arr.cell HG.out 1, bytes_later h39 hbl⟩
          | 2, _ => exact ⟨_, _, Arr.cell HG.out 2, bytes_later h44 hbl⟩
          | 3, _ => exact ⟨_, _, Arr.cell HG.out 3, bytes_later h51 hbl⟩
        have HBl : Hid _ := hbl
        clear hl39 hl44 hl51 h39 h44 h51 hy44 hy51 HG hbl
        have HRI : Hid _ := hRI
        have H13 : Hid _ := h13
        have H14 : Hid _ := h14
        have H18 : Hid _ := h18
        have HSZ : Hid _ := hsz
        have HD4 : Hid _ := d4
        have HD9 : Hid _ := d9
        have HD16 : Hid _ := d16
        clear hRI h13 h14 h18 hsz hdep hni d4 d9 d16
        go_simp
        have hRI := HRI.out
        have h13 := H13.out
        have h14 := H14.out
        have h18 := H18.out
        have hsz := HSZ.out
        refine hK.out _ _ ⟨x37, .slice a39 l39 c39, .slice a44 l44 c44, x46, x48, x49, x50, .slice a51 l51 c51, .slice (some ⟨w.heap.size, 0, none⟩) 4 4, x53, rfl, ?_, fun h => h13 (up_keep h (by decide)), fun h => h14 (up_keep h (by decide)), fun h => h18 (up_keep h (by decide))⟩
        rw [set_other (i := 17) (j := 2) (by decide), set_other (i := 17) (j := 4) (by decide), set_other (i := 17) (j := 9) (by decide), set_other (i := 17) (j := 11) (by decide), set_other (i := 17) (j := 15) (by decide), set_other (i := 17) (j := 16) (by decide), set_self (by rw [hsz]; decide), HD4.out, HD9.out, HD16.out]
        exact RJ.set17 hRI HBl.out HF.out
      · obtain ⟨x37, x39, x44, x46, x48, x49, x50, x51, x52, x53, rfl, hRI, h13, h14, h18⟩ := hI
        have d17 := hdep { on := 17, ground := .data } (by simp) rfl
        obtain ⟨G, rfl, _⟩ := RJ.h17 hRI d17
        have HRI : Hid _ := hRI
        have H13 : Hid _ := h13
        have H14 : Hid _ := h14
        have H18 : Hid _ := h18
        have HSZ : Hid _ := hsz
        have HD17 : Hid _ := d17
        clear hRI h13 h14 h18 hsz hdep hni d17
        go_simp
        have hRI := HRI.out
        have h13 := H13.out
        have h14 := H14.out
        have h18 := H18.out
        have hsz := HSZ.out
        refine hK.out _ _ ⟨x37, x39, x44, x46, x48, x49, x50, x51, .slice (some ⟨G, 0, none⟩) 4 4, .int .i64 4, rfl, ?_, fun h => h13 (up_keep h (by decide)), fun h => h14 (up_keep h (by decide)), fun _ => rfl⟩
        rw [set_other (i := 18) (j := 2) (by decide), set_other (i := 18) (j := 4) (by decide), set_other (i := 18) (j := 9) (by decide), set_other (i := 18) (j := 11) (by decide), set_other (i := 18) (j := 15) (by decide), set_other (i := 18) (j := 16) (by decide), set_other (i := 18) (j := 17) (by decide)]
        exact hRI
    · simp only [Act.put, List.setIfInBounds_toArray, List.set_cons_zero, List.set_cons_succ]
      rintro l ac w5 ⟨x37, x39, x44, x46, x48, x49, x50, x51, x52, x53, rfl, hRI, h13, h14, h18⟩ hall
      have e53 := h18 (hall 18 (by decide))
      rw [hall 2 (by decide), hall 4 (by decide), hall 9 (by decide), hall 11 (by decide), hall 15 (by decide), hall 16 (by decide), hall 17 (by decide)] at hRI
      obtain ⟨G, e52, hF⟩ := RJ.h17 hRI rfl
      subst e53 e52
      go_wp2_with fail
      go_meet
      exact ⟨rfl, rfl, RJ.bel hRI, G, rfl, hF⟩
  case rest =>
    obtain ⟨rfl, rfl, hBc, G, rfl, hV⟩ := hcut
    have HBc : Hid (Below w3.heap.size w3 wc) := hBc
    have HV : Hid (Four wc G) := hV
    clear hBc hV HCh HZ3 esq
    go_wp2_with fail
    go_loopw [54] (fun i wr => ∃ m : Nat, m ≤ 4 ∧ i = .int .i64 m ∧ Below wc.heap.size wc wr) (fun i _ => 4 - (intOf i).toNat)
    case atStart => exact ⟨0, by omega, rfl, Below.refl _ _⟩
    case round =>
      obtain ⟨m, hm, rfl, hB⟩ := hrel
      have HB : Hid (Below wc.heap.size wc wr) := hB
      clear hB
      by_cases hmn : m < 4
      · have hmi : (m : Int) < 4 := by omega
        obtain ⟨v, ys, hcell, hby⟩ := HV.out m hmn
        have hcw : wr.cell? ⟨G, m, none⟩ = some v := by rw [HB.out.cell (World.block_lt_of_cell? wc _ hcell)]; exact hcell
        obtain ⟨av, cv, rfl, hrow, hbb, hcc, hmm, hnn⟩ := hby
        have HYv : Hid (∀ w, Below wc.heap.size wc w → Bytes w (.slice av ys.length cv) ys) := fun w hB => ⟨av, cv, rfl, hrow.later hB, hbb, hcc, hmm, hnn⟩
        have HTk : Hid (∀ w, Below wc.heap.size wc w → _) := fun w (hB : Below wc.heap.size wc w) => dotTake_any av ys cv w (hrow.later hB) hbb hcc hmm
        have HRk : Hid (∀ w, Below wc.heap.size wc w → _) := fun w (hB : Below wc.heap.size wc w) => refDotTake_any av ys cv w (hrow.later hB) hbb hcc hmm
        have hac := DotMath.take_cases ys hbb
        obtain ⟨R, hR⟩ : ∃ R, R = DotMath.take ys := ⟨_, rfl⟩
        rw [← hR] at hac
        simp only [← hR] at HTk HRk
        clear hcell hrow hnn hR
        obtain ⟨x, nn, er⟩ := R
        generalize hlv : ys.length = lv at *
        have HLv : Hid (ys.length = lv) := hlv
        have hcv : lv ≤ cv := hcc
        clear hlv hbb hcc hmm
        have HAc : Hid _ := hac
        clear hac
        unfold dtV at HTk HRk
        go_wp2_with fail
        refine Calls.mono (HTk.out _ HB.out) ?_
        rintro r w5 ⟨rfl, hb5⟩
        have HX0 : Hid (DtAt (w5.alloc (.cells #[.int .i64 0, .int .i64 0] 23)) w5.heap.size DotMath.zero) := DtAt.new w5 DotMath.zero rfl
        have HB5 : Hid (Below wc.heap.size wc w5) := HB.out.trans (hb5.mono HB.out.size)
        have HX1 : Hid (DtAt ((w5.alloc (.cells #[.int .i64 0, .int .i64 0] 23)).setRow w5.heap.size (dtL x).toArray) w5.heap.size x) := DtAt.row HX0.out
        have HB6 : Hid (Below wc.heap.size wc ((w5.alloc (.cells #[.int .i64 0, .int .i64 0] 23)).setRow w5.heap.size (dtL x).toArray)) := below_setRow (HB5.out.alloc HB5.out.size _) HB5.out.size _
        clear hb5 HB HB5 hcw HTk
        go_upto_region 10 with (refine wpList_store_dt rfl (.tmp 16) (.tmp 61) rfl w5.heap.size DotMath.zero x rfl rfl HX0.out ?_)
        clear HX0
        generalize (w5.alloc (.cells #[.int .i64 0, .int .i64 0] 23)).setRow w5.heap.size (dtL x).toArray = w6 at *
        generalize w5.heap.size = g16 at *
        go_wp2_with fail
        refine Calls.mono (HRk.out _ HB6.out) ?_
        rintro r w7 ⟨rfl, hb7⟩
        have HX7 : Hid (DtAt w7 g16 x) := dt_kept HX1.out hb7
        have HB7 : Hid (Below wc.heap.size wc w7) := HB6.out.trans (hb7.mono HB6.out.size)
        have HY0 : Hid (DtAt (w7.alloc (.cells #[.int .i64 0, .int .i64 0] 23)) w7.heap.size DotMath.zero) := DtAt.new w7 DotMath.zero rfl
        have HY1 : Hid (DtAt ((w7.alloc (.cells #[.int .i64 0, .int .i64 0] 23)).setRow w7.heap.size (dtL x).toArray) w7.heap.size x) := DtAt.row HY0.out
        have hl8 : Below w7.heap.size w7 ((w7.alloc (.cells #[.int .i64 0, .int .i64 0] 23)).setRow w7.heap.size (dtL x).toArray) := below_setRow ((Below.refl _ _).alloc (Nat.le_refl _) _) (Nat.le_refl _) _
        have HX8 : Hid (DtAt ((w7.alloc (.cells #[.int .i64 0, .int .i64 0] 23)).setRow w7.heap.size (dtL x).toArray) g16 x) := dt_kept HX7.out hl8
        have HB8 : Hid (Below wc.heap.size wc ((w7.alloc (.cells #[.int .i64 0, .int .i64 0] 23)).setRow w7.heap.size (dtL x).toArray)) := HB7.out.trans (hl8.mono HB7.out.size)
        clear hb7 hl8 HX1 HB6 HX7 HB7 HRk
        go_upto_region 11 with (refine wpList_store_dt rfl (.tmp 19) (.tmp 67) rfl w7.heap.size DotMath.zero x rfl rfl HY0.out ?_)
        clear HY0
        generalize (w7.alloc (.cells #[.int .i64 0, .int .i64 0] 23)).setRow w7.heap.size (dtL x).toArray = w8 at *
        generalize w7.heap.size = g19 at *
        obtain ⟨p0, p1⟩ := HX8.out.cells
        obtain ⟨q0, q1⟩ := HY1.out.cells
        have hec : er = 20 ∨ er = 21 ∨ ∃ n' : Nat, er = 0 ∧ nn = (n' : Int) ∧ 2 ≤ n' ∧ n' ≤ lv ∧ Hid (DotMath.bytes x = ys.take n') := by
          rcases HAc.out with h | h | ⟨n', d', h1, h2, h, h3, h4⟩
          · left; exact congrArg (fun x => x.2.2) h
          · right; left; exact congrArg (fun x => x.2.2) h
          · right; right
            have e1 : x = d' := congrArg (fun x => x.1) h
            subst e1
            exact ⟨n', congrArg (fun x => x.2.2) h, congrArg (fun x => x.2.1) h, h1, h2, h4⟩
        clear HAc
        go_upto_region 13 with (fail)
        clear q0 q1 HY1
        rcases hec with rfl | rfl | ⟨n', rfl, rfl, hn1, hnl, HPt⟩
        · have hne : Nonempty (Grown1 w8) := ⟨⟨w8, Below.refl _ _⟩⟩
          (try simp only [Act.put])
          refine wp_region_grow (by kernel_rfl) (by kernel_rfl) ?_
          repeat (go_big_quiet_step (fail))
          refine wpQuiet_nil ?_
          intro _ hw'
          obtain ⟨n1, hw''⟩ := hw'
          subst hw''
          have HBe : Hid (Below wc.heap.size wc n1.w) := HB8.out.trans (n1.below.mono HB8.out.size)
          generalize n1.w = u7 at *
          go_wp2
          go_roundw
          case rel => exact ⟨m + 1, by omega, by go_num, HBe.out⟩
          case measure => simp [intOf]; omega
        · have hne : Nonempty (Grown1 w8) := ⟨⟨w8, Below.refl _ _⟩⟩
          (try simp only [Act.put])
          refine wp_region_grow (by kernel_rfl) (by kernel_rfl) ?_
          repeat (go_big_quiet_step (fail))
          refine wpQuiet_nil ?_
          intro _ hw'
          obtain ⟨n1, hw''⟩ := hw'
          subst hw''
          have HBe : Hid (Below wc.heap.size wc n1.w) := HB8.out.trans (n1.below.mono HB8.out.size)
          generalize n1.w = u7 at *
          go_wp2
          go_roundw
          case rel => exact ⟨m + 1, by omega, by go_num, HBe.out⟩
          case measure => simp [intOf]; omega
        · have HSt : Hid (∀ w, Below wc.heap.size wc w → (convert 34 9 (.slice av n' cv)).run Try.prog w = .ok (.string (strOfNums (ys.take n'))) w) := fun w hB => by
            obtain ⟨_, _, hv, hrow, _, _, _, _⟩ := HYv.out w hB
            simp only [Value.slice.injEq] at hv
            obtain ⟨rfl, _, rfl⟩ := hv
            have h9 : (convert 34 9 (.slice av (ys.take n').length cv)).run Try.prog w = .ok (.string (strOfNums (ys.take n'))) w := row_string (Row.take hrow n')
            rw [List.length_take, HLv.out, Nat.min_eq_left hnl] at h9
            exact h9
          have HPu : Hid (∀ w, Calls Try.prog 16 #[.agg #[.int .i64 x.r, .int .i64 x.s]] w fun e w' => ∃ v, e = .returned v ∧ Bytes w' v (ys.take n') ∧ Below w.heap.size w w') := fun w => by
            have := dotBytes_any x w
            rw [HPt.out] at this
            exact this
          have i1 : (2 : Int) ≤ (n' : Int) := by omega
          have i2 : (n' : Int) ≤ (lv : Int) := by omega
          have i3 : (n' : Int) ≤ (cv : Int) := by omega
          have d1 : decide ((n' : Int) < 2) = false := decide_eq_false (by omega)
          have d2 : decide ((lv : Int) < (n' : Int)) = false := decide_eq_false (by omega)
          have d3 : ¬ lv < n' := by omega
          have d4 : ¬ (lv : Int) < (n' : Int) := by omega
          have HXd : Hid (DtAt w8.drew g16 x) := HX8.out.drew
          have HBd : Hid (Below wc.heap.size wc w8.drew) := HB8.out.drew
          clear HX8 HB8 HPt hcv p0 p1
          obtain ⟨p0, p1⟩ := HXd.out.cells
          refine wp_region_held_drew (S := fun w' => w'.cell? ⟨g16, 0, none⟩ = some (.int .i64 x.r) ∧ w'.cell? ⟨g16, 1, none⟩ = some (.int .i64 x.s) ∧ (convert 34 9 (.slice av n' cv)).run Try.prog w' = .ok (.string (strOfNums (ys.take n'))) w') (by kernel_rfl) ⟨p0, p1, HSt.out _ HBd.out⟩ (fun hS => ?_)
          clear p0 p1
          generalize w8.drew = v0 at *
          refine wpAnyH_take (i := 0) (v := ?_) rfl (by kernel_rfl) (by kernel_rfl) (by kernel_rfl) (fun _ _ _ h => h) (Or.inl ⟨by rfl, ?_⟩) hS ?_
          rotate_left 1
          · intro w hSw; (try dsimp only at hSw); go_simp <;> with_reducible rfl
          simp only [List.getElem_toArray, List.getElem_cons_zero, List.getElem_cons_succ, Act.put, List.setIfInBounds_toArray, List.set_cons_zero, List.set_cons_succ]
          refine wpAnyH_take (i := 1) (v := ?_) rfl (by kernel_rfl) (by kernel_rfl) (by kernel_rfl) (fun _ _ _ h => h) (Or.inl ⟨by rfl, ?_⟩) hS ?_
          rotate_left 1
          · intro w hSw; (try dsimp only at hSw); go_simp <;> with_reducible rfl
          simp only [List.getElem_toArray, List.getElem_cons_zero, List.getElem_cons_succ, Act.put, List.setIfInBounds_toArray, List.set_cons_zero, List.set_cons_succ]
          refine wpAnyH_take (i := 2) (v := ?_) rfl (by kernel_rfl) (by kernel_rfl) (by kernel_rfl) (fun _ _ _ h => h) (Or.inl ⟨by rfl, ?_⟩) hS ?_
          rotate_left 1
          · intro w hSw; (try dsimp only at hSw); go_simp <;> with_reducible rfl
          simp only [List.getElem_toArray, List.getElem_cons_zero, List.getElem_cons_succ, Act.put, List.setIfInBounds_toArray, List.set_cons_zero, List.set_cons_succ]
          refine wpAnyH_take (i := 3) (v := ?_) rfl (by kernel_rfl) (by kernel_rfl) (by kernel_rfl) (fun _ _ _ h => h) (Or.inl ⟨by rfl, ?_⟩) hS ?_
          rotate_left 1
          · intro w hSw; (try dsimp only at hSw); go_simp <;> with_reducible rfl
          simp only [List.getElem_toArray, List.getElem_cons_zero, List.getElem_cons_succ, Act.put, List.setIfInBounds_toArray, List.set_cons_zero, List.set_cons_succ]
          refine wpAnyH_take (i := 4) (v := ?_) rfl (by kernel_rfl) (by kernel_rfl) (by kernel_rfl) (fun _ _ _ h => h) (Or.inl ⟨by rfl, ?_⟩) hS ?_
          rotate_left 1
          · intro w hSw; (try dsimp only at hSw); go_simp <;> with_reducible rfl
          simp only [List.getElem_toArray, List.getElem_cons_zero, List.getElem_cons_succ, Act.put, List.setIfInBounds_toArray, List.set_cons_zero, List.set_cons_succ]
          refine wpAnyH_take (i := 5) (v := ?_) rfl (by kernel_rfl) (by kernel_rfl) (by kernel_rfl) (fun _ _ _ h => h) (Or.inl ⟨by rfl, ?_⟩) hS ?_
          rotate_left 1
          · intro w hSw; (try dsimp only at hSw); go_simp <;> with_reducible rfl
          simp only [List.getElem_toArray, List.getElem_cons_zero, List.getElem_cons_succ, Act.put, List.setIfInBounds_toArray, List.set_cons_zero, List.set_cons_succ]
          refine wpAnyH_take (i := 6) (v := ?_) rfl (by kernel_rfl) (by kernel_rfl) (by kernel_rfl) (fun _ _ _ h => h) (Or.inl ⟨by rfl, ?_⟩) hS ?_
          rotate_left 1
          · intro w hSw; (try dsimp only at hSw); go_simp <;> with_reducible rfl
          simp only [List.getElem_toArray, List.getElem_cons_zero, List.getElem_cons_succ, Act.put, List.setIfInBounds_toArray, List.set_cons_zero, List.set_cons_succ]
          refine wpAnyH_take (i := 7) (v := ?_) rfl (by kernel_rfl) (by kernel_rfl) (by kernel_rfl) (fun _ _ _ h => h) (Or.inl ⟨by rfl, ?_⟩) hS ?_
          rotate_left 1
          · intro w hSw; (try dsimp only at hSw); go_simp <;> with_reducible rfl
          simp only [List.getElem_toArray, List.getElem_cons_zero, List.getElem_cons_succ, Act.put, List.setIfInBounds_toArray, List.set_cons_zero, List.set_cons_succ]
          refine wpAnyH_take (i := 8) (v := ?_) rfl (by kernel_rfl) (by kernel_rfl) (by kernel_rfl) (fun _ _ _ h => h) (Or.inl ⟨by rfl, ?_⟩) hS ?_
          rotate_left 1
          · intro w hSw; (try dsimp only at hSw); go_simp <;> with_reducible rfl
          simp only [List.getElem_toArray, List.getElem_cons_zero, List.getElem_cons_succ, Act.put, List.setIfInBounds_toArray, List.set_cons_zero, List.set_cons_succ]
          refine wpAnyH_take (i := 9) (v := ?_) rfl (by kernel_rfl) (by kernel_rfl) (by kernel_rfl) (fun _ _ _ h => h) (Or.inl ⟨by rfl, ?_⟩) hS ?_
          rotate_left 1
          · intro w hSw; (try dsimp only at hSw); go_simp <;> with_reducible rfl
          simp only [List.getElem_toArray, List.getElem_cons_zero, List.getElem_cons_succ, Act.put, List.setIfInBounds_toArray, List.set_cons_zero, List.set_cons_succ]
          refine wpAnyH_take (i := 10) (v := ?_) rfl (by kernel_rfl) (by kernel_rfl) (by kernel_rfl) (fun _ _ _ h => h) (Or.inl ⟨by rfl, ?_⟩) hS ?_
          rotate_left 1
          · intro w hSw; (try dsimp only at hSw); go_simp <;> with_reducible rfl
          simp only [List.getElem_toArray, List.getElem_cons_zero, List.getElem_cons_succ, Act.put, List.setIfInBounds_toArray, List.set_cons_zero, List.set_cons_succ]
          refine wpAnyH_take (i := 11) (v := ?_) rfl (by kernel_rfl) (by kernel_rfl) (by kernel_rfl) (fun _ _ _ h => h) (Or.inl ⟨by rfl, ?_⟩) hS ?_
          rotate_left 1
          · intro w hSw; (try dsimp only at hSw); go_simp <;> with_reducible rfl
          simp only [List.getElem_toArray, List.getElem_cons_zero, List.getElem_cons_succ, Act.put, List.setIfInBounds_toArray, List.set_cons_zero, List.set_cons_succ]
          refine wpAnyH_take (i := 12) (v := ?_) rfl (by kernel_rfl) (by kernel_rfl) (by kernel_rfl) (fun _ _ _ h => h) (Or.inl ⟨by rfl, ?_⟩) hS ?_
          rotate_left 1
          · intro w hSw; (try dsimp only at hSw); go_simp <;> with_reducible rfl
          simp only [List.getElem_toArray, List.getElem_cons_zero, List.getElem_cons_succ, Act.put, List.setIfInBounds_toArray, List.set_cons_zero, List.set_cons_succ]
          refine wpAnyH_take (i := 15) (v := ?_) rfl (by kernel_rfl) (by kernel_rfl) (by kernel_rfl) (fun _ _ _ h => h) (Or.inl ⟨by rfl, ?_⟩) hS ?_
          rotate_left 1
          · intro w hSw; (try dsimp only at hSw); go_simp <;> with_reducible rfl
          simp only [List.getElem_toArray, List.getElem_cons_zero, List.getElem_cons_succ, Act.put, List.setIfInBounds_toArray, List.set_cons_zero, List.set_cons_succ]
          refine wpAnyH_take (i := 16) (v := ?_) rfl (by kernel_rfl) (by kernel_rfl) (by kernel_rfl) (fun _ _ _ h => h) (Or.inl ⟨by rfl, ?_⟩) hS ?_
          rotate_left 1
          · intro w hSw; (try dsimp only at hSw); go_simp <;> with_reducible rfl
          simp only [List.getElem_toArray, List.getElem_cons_zero, List.getElem_cons_succ, Act.put, List.setIfInBounds_toArray, List.set_cons_zero, List.set_cons_succ]
          refine wpAnyH_take (i := 17) (v := ?_) rfl (by kernel_rfl) (by kernel_rfl) (by kernel_rfl) (fun _ _ _ h => h) (Or.inl ⟨by rfl, ?_⟩) hS ?_
          rotate_left 1
          · intro w hSw; (try dsimp only at hSw); go_simp <;> with_reducible rfl
          simp only [List.getElem_toArray, List.getElem_cons_zero, List.getElem_cons_succ, Act.put, List.setIfInBounds_toArray, List.set_cons_zero, List.set_cons_succ]
          refine wpAnyH_take (i := 18) (v := ?_) rfl (by kernel_rfl) (by kernel_rfl) (by kernel_rfl) (fun _ _ _ h => h) (Or.inl ⟨by rfl, ?_⟩) hS ?_
          rotate_left 1
          · intro w hSw; (try dsimp only at hSw); go_simp <;> with_reducible rfl
          simp only [List.getElem_toArray, List.getElem_cons_zero, List.getElem_cons_succ, Act.put, List.setIfInBounds_toArray, List.set_cons_zero, List.set_cons_succ]
          refine wpAnyH_ready (rs := [13]) (by kernel_rfl) (by simp) ?_
          refine AllReadyH.cons rfl (fun K hK => ?_) AllReadyH.nil
          go_simp
          refine Calls.mono (HPu.out _) ?_
          rintro r v1 ⟨x2, rfl, hby2, hbx⟩
          have HBe : Hid (Below wc.heap.size wc v1) := HBd.out.trans (hbx.mono HBd.out.size)
          have HXe : Hid (DtAt v1 g16 x) := dt_kept HXd.out hbx
          obtain ⟨p0, p1⟩ := HXe.out.cells
          refine hK.out _ _ ⟨p0, p1, HSt.out _ HBe.out⟩ (fun hS => ?_)
          clear hK K hbx HXd HBd p0 p1
          have hst := bytes_text hby2
          clear hby2
          refine wpAnyH_weaken (S2 := fun w' => (w'.cell? ⟨g16, 0, none⟩ = some (.int .i64 x.r) ∧ w'.cell? ⟨g16, 1, none⟩ = some (.int .i64 x.s) ∧ (convert 34 9 (.slice av n' cv)).run Try.prog w' = .ok (.string (strOfNums (ys.take n'))) w') ∧ (convert 34 9 x2).run Try.prog w' = .ok (.string (strOfNums (ys.take n'))) w') (fun w h => h.1) _ _ _ _ ?_
          have hS : _ := And.intro hS hst
          have heq2 : ((strOfNums (ys.take n')).toList == (strOfNums (ys.take n')).toList) = true := by simp
          refine wpAnyH_take (i := 14) (v := ?_) rfl (by kernel_rfl) (by kernel_rfl) (by kernel_rfl) (fun _ _ _ h => h) (Or.inl ⟨by rfl, ?_⟩) hS ?_
          rotate_left 1
          · intro w hSw; (try dsimp only at hSw); go_simp <;> with_reducible rfl
          simp only [List.getElem_toArray, List.getElem_cons_zero, List.getElem_cons_succ, Act.put, List.setIfInBounds_toArray, List.set_cons_zero, List.set_cons_succ]
          refine wpAnyH_take (i := 19) (v := ?_) rfl (by kernel_rfl) (by kernel_rfl) (by kernel_rfl) (fun _ _ _ h => h) (Or.inl ⟨by rfl, ?_⟩) hS ?_
          rotate_left 1
          · intro w hSw; (try dsimp only at hSw); go_simp <;> with_reducible rfl
          simp only [List.getElem_toArray, List.getElem_cons_zero, List.getElem_cons_succ, Act.put, List.setIfInBounds_toArray, List.set_cons_zero, List.set_cons_succ]
          refine wpAnyH_take (i := 20) (v := ?_) rfl (by kernel_rfl) (by kernel_rfl) (by kernel_rfl) (fun _ _ _ h => h) (Or.inl ⟨by rfl, ?_⟩) hS ?_
          rotate_left 1
          · intro w hSw; (try dsimp only at hSw); go_simp <;> with_reducible rfl
          simp only [List.getElem_toArray, List.getElem_cons_zero, List.getElem_cons_succ, Act.put, List.setIfInBounds_toArray, List.set_cons_zero, List.set_cons_succ]
          refine wpAnyH_take (i := 21) (v := ?_) rfl (by kernel_rfl) (by kernel_rfl) (by kernel_rfl) (fun _ _ _ h => h) (Or.inl ⟨by rfl, ?_⟩) hS ?_
          rotate_left 1
          · intro w hSw; (try dsimp only at hSw); go_simp <;> with_reducible rfl
          simp only [List.getElem_toArray, List.getElem_cons_zero, List.getElem_cons_succ, Act.put, List.setIfInBounds_toArray, List.set_cons_zero, List.set_cons_succ]
          refine wpAnyH_done (by kernel_rfl) ?_ _
          clear hS hst
          go_wp2
          go_roundw
          case rel => exact ⟨m + 1, by omega, by go_num, HBe.out⟩
          case measure => simp [intOf]; omega
      · have hmk : m = 4 := by omega
        have hdm : decide ((m : Int) < 4) = false := by simp; omega
        have HBr : Hid (Below w3.heap.size w3 wr) := HBc.out.trans (HB.out.mono HBc.out.size)
        have HPr : Hid (Bytes wr (.slice ap lp cp) pz) := HPB.out _ HBr.out
        clear HB HV HBc
        have HTr : Hid (Bytes wr (.slice a2 L2 cap2) ts) := HT3.out _ HBr.out
        have HDt : Hid (DtAt wr g7 d) := HAB.out _ HBr.out
        have HBw : Hid (Below W.heap.size W wr) := HB3.out.trans (HBr.out.mono HB3.out.size)
        rw [← HLp.out] at HBk
        clear HT3 HAB HPB HBr HB3 hS heq2
        go_wp2_with (first
          | (at_builtin; refine wpList_app_bytes rfl (.const (.slice none 0 0)) (.tmp 107) rfl wr.heap.size (.slice none 0 0) [] rfl (BOwn.nil _ _) (.slice ap lp cp) pz rfl HPr.out (by simp; omega) (Nat.le_refl _) ?_; intro v5 w5 hown5 hgrow5; rw [List.nil_append] at hown5; have HO5 : Hid (BOwn w5 wr.heap.size v5 pz) := hown5; have HL5 : Hid (Below wr.heap.size wr w5) := (Below.refl _ _).grown hgrow5 (Nat.le_refl _) (fun k hk => by cases hk); clear hown5 hgrow5)
          | (at_builtin; refine wpList_app_bytes rfl (.tmp 108) (.tmp 109) rfl wr.heap.size v5 pz rfl HO5.out (.slice a2 L2 cap2) ts rfl (bytes_later HTr.out HL5.out) (by have := HTl.out; omega) HL5.out.size ?_; intro v6 w6 hown6 hgrow6; have HL6 : Hid (Below wr.heap.size wr w6) := HL5.out.grown hgrow6 HL5.out.size (fun k hk => HO5.out.ge k hk); have hy6 := bytes_of_own hown6 (fun c hc => (List.mem_append.1 hc).elim (HPz.out c) (HTb.out c)); obtain ⟨a6, l6, c6, rfl, hl6, h6⟩ := bytes_shape hy6; have HY6 : Hid (Bytes w6 (.slice a6 l6 c6) (pz ++ ts)) := h6; clear hl6 h6 hy6 hown6 hgrow6 HO5 HL5))
        have HTk : Hid (Calls Try.prog 20 #[.slice a6 l6 c6] w6 fun e w' => e = .returned (.tuple #[dtV (DotMath.take (pz ++ ts)).1, .int .i64 (DotMath.take (pz ++ ts)).2.1, .int .i64 (DotMath.take (pz ++ ts)).2.2]) ∧ Below w6.heap.size w6 w') := by
          obtain ⟨_, _, hv, hrow, hbb, hcc, hmm, _⟩ := HY6.out
          simp only [Value.slice.injEq] at hv
          obtain ⟨rfl, rfl, rfl⟩ := hv
          exact dotTake_any _ _ _ w6 hrow hbb hcc hmm
        have HD6 : Hid (DtAt w6 g7 d) := dt_kept HDt.out HL6.out
        have HB6 : Hid (Below W.heap.size W w6) := HBw.out.trans (HL6.out.mono HBw.out.size)
        clear HY6 HDt HBw HL6 HPr HTr
        generalize DotMath.take (pz ++ ts) = T at *
        obtain ⟨x, nn, er⟩ := T
        unfold dtV at HTk
        refine Calls.mono HTk.out ?_
        rintro r w7 ⟨rfl, hb7⟩
        have HX0 : Hid (DtAt (w7.alloc (.cells #[.int .i64 0, .int .i64 0] 23)) w7.heap.size DotMath.zero) := DtAt.new w7 DotMath.zero rfl
        have HD7 : Hid (DtAt w7 g7 d) := dt_kept HD6.out hb7
        have HB7 : Hid (Below W.heap.size W w7) := HB6.out.trans (hb7.mono HB6.out.size)
        have HX1 : Hid (DtAt ((w7.alloc (.cells #[.int .i64 0, .int .i64 0] 23)).setRow w7.heap.size (dtL x).toArray) w7.heap.size x) := DtAt.row HX0.out
        have hl8 : Below w7.heap.size w7 ((w7.alloc (.cells #[.int .i64 0, .int .i64 0] 23)).setRow w7.heap.size (dtL x).toArray) := below_setRow ((Below.refl _ _).alloc (Nat.le_refl _) _) (Nat.le_refl _) _
        have HD8 : Hid (DtAt ((w7.alloc (.cells #[.int .i64 0, .int .i64 0] 23)).setRow w7.heap.size (dtL x).toArray) g7 d) := dt_kept HD7.out hl8
        have HB8 : Hid (Below W.heap.size W ((w7.alloc (.cells #[.int .i64 0, .int .i64 0] 23)).setRow w7.heap.size (dtL x).toArray)) := HB7.out.trans (hl8.mono HB7.out.size)
        clear hb7 hl8 HD6 HB6 HD7 HB7 HTk
        go_upto_region 17 with (refine wpList_store_dt rfl (.tmp 22) (.tmp 112) rfl w7.heap.size DotMath.zero x rfl rfl HX0.out ?_)
        clear HX0
        generalize (w7.alloc (.cells #[.int .i64 0, .int .i64 0] 23)).setRow w7.heap.size (dtL x).toArray = w8 at *
        generalize w7.heap.size = g22 at *
        obtain ⟨p0, p1⟩ := HD8.out.cells
        cases hrd : DotMath.right d with
        | false =>
          rw [hrd] at HDr
          clear hrd HBk
          go_wp2_with fail
          refine Calls.mono (HDr.out _) ?_
          rintro r w9 ⟨rfl, hb9⟩
          have HB9 : Hid (Below W.heap.size W w9) := HB8.out.trans (hb9.mono HB8.out.size)
          clear hb9
          go_wp2
          go_ret
          exact ⟨rfl, HB9.out⟩
        | true =>
          have he := HBk.out hrd
          simp only [Prod.mk.injEq] at he
          obtain ⟨rfl, rfl, rfl⟩ := he
          rw [hrd] at HDr
          clear hrd HBk
          go_wp2_with fail
          refine Calls.mono (HDr.out _) ?_
          rintro r w9 ⟨rfl, hb9⟩
          have HB9 : Hid (Below W.heap.size W w9) := HB8.out.trans (hb9.mono HB8.out.size)
          have HX9 : Hid (DtAt w9 g22 x) := dt_kept HX1.out hb9
          have HD9 : Hid (DtAt w9 g7 x) := dt_kept HD8.out hb9
          clear hb9 p0 p1
          obtain ⟨p0, p1⟩ := HD9.out.cells
          obtain ⟨q0, q1⟩ := HX9.out.cells
          go_wp2
          go_ret
          exact ⟨rfl, HB9.out⟩
end Go.Proofs.Ytehaeepihjookaa

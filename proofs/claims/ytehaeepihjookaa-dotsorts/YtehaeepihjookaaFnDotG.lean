/-
  Walk of newsreelref1.DotSort.
-/
import Derived.Test.YtehaeepihjookaaFnDotA
import Derived.Test.YtehaeepihjookaaDotStep
import Derived.Test.YtehaeepihjookaaGrowKit
import Derived.Deep.Cut
namespace Go.Proofs.Ytehaeepihjookaa
open Go.RowKit NumMath
open DotMath (Dt)
set_option maxRecDepth 100000
set_option linter.unusedVariables false
set_option linter.unusedSimpArgs false

/-- A literal of one dot. -/
theorem own_lit (w : World) (d : Dt) : DOwn (w.alloc (.cells #[.int .i64 d.r, .int .i64 d.s] 23)) w.heap.size (.slice (some ⟨w.heap.size, 0, none⟩) 1 1) [d] :=
  ⟨⟨rfl, .inr ⟨w.heap.size, 1, #[.int .i64 d.r, .int .i64 d.s], rfl, Nat.le_refl _, Arr.new w _ (dtL d) rfl, by simp, by decide, rfl, rfl⟩⟩⟩
/-- Where two dots part. -/
theorem dne_cases {a b : Dt} (h : a ≠ b) : ((a.r == b.r) = false) ∨ ((a.r == b.r) = true ∧ (a.s == b.s) = false) := by
  by_cases h1 : a.r = b.r
  · right; refine ⟨by simp [h1], ?_⟩
    simp; intro h2; exact h (DotMath.Dt.eq_iff.2 ⟨h1, h2⟩)
  · left; simp [h1]

set_option maxHeartbeats 16000000 in
theorem refDotSort_any (a : Option Addr) (ds : List Dt) (cap : Nat) (w : World) (hr : DRow w a ds) (hc : ds.length ≤ cap) (hm : cap ≤ maxLen) (hlim : ds.length ≤ 4000000000000) :
    Calls Try.prog 15 #[.slice a ds.length cap] w fun e w' => ∃ v, e = .returned v ∧ DOwn w' w.heap.size v (DotMath.sort ds) ∧ Below w.heap.size w w' := by
  unfold maxLen at hm
  by_cases h0 : ds.length = 0
  · obtain rfl := List.eq_nil_of_length_eq_zero h0
    go_enter Try.func15, Try.ntmps15
    go_wp2
    refine wp_loop_rounds 1 ?_
    rw [rounds_succ]
    go_wp2
    go_ret
    exact ⟨_, rfl, DOwn.nil _ _, Below.refl _ _⟩
  obtain ⟨b, off, rfl, _⟩ := hr.at (by omega)
  have HC : Hid (∀ k, k < ds.length → ∀ w', Below w.heap.size w w' → _) := fun k hk w' hB => DRow.cells (hr.later hB) hk
  have HS : Hid (∀ k, k < ds.length → DotMath.sort (ds.take (k + 1)) = DotMath.ins (ds[k]?.getD DotMath.zero) (DotMath.sort (ds.take k))) := fun k hk => by
    rw [List.take_succ_eq_append_getElem hk, DotMath.sort_snoc]; simp [hk]
  have HLn : Hid (∀ k, (DotMath.sort (ds.take k)).length ≤ k) := fun k => by
    have := DotMath.sort_len (ds.take k); simp at this; omega
  have HE : Hid (DotMath.sort (ds.take ds.length) = DotMath.sort ds) := by show _ = _; rw [List.take_of_length_le (Nat.le_refl _)]
  obtain ⟨n, hn⟩ : ∃ n, n = ds.length := ⟨_, rfl⟩
  rw [← hn] at hc HC HS HE hlim ⊢
  clear hn hr h0
  go_enter Try.func15, Try.ntmps15
  go_wp2
  go_loopw [3, 4] (fun v i wr => ∃ k : Nat, k ≤ n ∧ i = .int .i64 k ∧ DOwn wr w.heap.size v (DotMath.sort (ds.take k)) ∧ Below w.heap.size w wr) (fun _ i _ => n - (intOf i).toNat)
  case atStart => exact ⟨0, by omega, rfl, DOwn.nil _ _, Below.refl _ _⟩
  case round =>
    obtain ⟨k, hk, rfl, hO, hB⟩ := hrel
    by_cases hkn : k < n
    · have hki : (k : Int) < (n : Int) := by omega
      have hkc : (k : Int) < (cap : Int) := by omega
      have HIn : Hid _ := HS.out k hkn
      have hal := HLn.out k
      have HCk : Hid (∀ w', Below w.heap.size w w' → _) := fun w' hB => HC.out k hkn w' hB
      have HFin : Hid (∀ x w', DOwn w' w.heap.size x (DotMath.ins (ds[k]?.getD DotMath.zero) (DotMath.sort (ds.take k))) → DOwn w' w.heap.size x (DotMath.sort (ds.take (k + 1)))) := fun x w' h => by rw [HS.out k hkn]; exact h
      have HLess : Hid (∀ x w, _) := fun x w => refDotLess_any x (ds[k]?.getD DotMath.zero) w
      clear HIn
      generalize ds[k]?.getD DotMath.zero = d at *
      generalize DotMath.sort (ds.take k) = acc at *
      obtain ⟨ao, c, rfl, hrow, hac, hcm, hnil⟩ := hO.dots
      unfold maxLen at hcm
      obtain ⟨m, hm2⟩ : ∃ m, m = acc.length := ⟨_, rfl⟩
      rw [← hm2] at hO hac hal
      rw [← hm2]
      have HM : Hid (m = acc.length) := hm2
      have HNil : Hid (ao = none → c = 0) := hnil
      have HB : Hid (Below w.heap.size w wr) := hB
      have HO : Hid (DOwn wr w.heap.size (.slice ao m c) acc) := hO
      have HR : Hid (DRow wr ao acc) := hrow
      clear hO hB hrow hm2 hnil
      go_wp2
      go_loopw [5] (fun x wr => ∃ q : Nat, q ≤ m ∧ x = .int .i64 q ∧ (∀ j, j < q → DotMath.less (acc[j]?.getD DotMath.zero) d = true) ∧ DOwn wr w.heap.size (.slice ao m c) acc ∧ DRow wr ao acc ∧ Below w.heap.size w wr) (fun x _ => m - (intOf x).toNat)
      case atStart => exact ⟨0, by omega, rfl, fun j hj => by omega, HO.out, HR.out, HB.out⟩
      case round =>
        obtain ⟨q, hq, rfl, hall, hO, hR, hB⟩ := hrel
        clear HO HR HB
        have HO : Hid (DOwn wr w.heap.size (.slice ao m c) acc) := hO
        have HR : Hid (DRow wr ao acc) := hR
        have HB : Hid (Below w.heap.size w wr) := hB
        have HAll : Hid (∀ j, j < q → DotMath.less (acc[j]?.getD DotMath.zero) d = true) := hall
        clear hO hR hB hall
        obtain ⟨p0, p1⟩ := HCk.out wr HB.out
        have hne : Nonempty (Grown1 wr) := ⟨⟨wr, Below.refl _ _⟩⟩
        have p0' := fun u : Grown1 wr => grown1_cell p0 u
        have p1' := fun u : Grown1 wr => grown1_cell p1 u
        clear p0 p1
        by_cases hqm : q < m
        · have hqi : (q : Int) < (m : Int) := by omega
          have hqc : (q : Int) < (c : Int) := by omega
          have hqe : ((q : Int) == (m : Int)) = false := by simp; omega
          obtain ⟨b2, o2, rfl, _⟩ := DRow.at HR.out (by rw [← HM.out]; omega)
          obtain ⟨q0, q1⟩ := DRow.cells HR.out (i := q) (by rw [← HM.out]; omega)
          have HL1 : Hid (∀ u : Grown1 wr, _) := fun u => HLess.out (acc[q]?.getD DotMath.zero) u.w
          obtain ⟨x, hx⟩ : ∃ x, x = acc[q]?.getD DotMath.zero := ⟨_, rfl⟩
          rw [← hx] at q0 q1 HL1
          have HX : Hid (x = acc[q]?.getD DotMath.zero) := hx
          clear hx
          have q0' := fun u : Grown1 wr => grown1_cell q0 u
          have q1' := fun u : Grown1 wr => grown1_cell q1 u
          clear q0 q1
          unfold dtV at HL1
          cases hl : DotMath.less x d with
          | true =>
            have HAll2 : Hid (∀ j, j < q + 1 → DotMath.less (acc[j]?.getD DotMath.zero) d = true) := fun j hj => by
              by_cases e : j = q
              · rw [e, ← HX.out]; exact hl
              · exact HAll.out j (by omega)
            rw [hl] at HL1
            clear hl HAll hqe
            go_upto_region 6 with (fail)
            (try simp only [Act.put])
            refine wp_region_grow (by kernel_rfl) (by kernel_rfl) ?_
            repeat (go_big_quiet_step (first | with_reducible exact grown1_call _ (HL1.out _) | fail))
            refine wpQuiet_nil ?_
            intro _ hw'
            obtain ⟨n1, hw''⟩ := hw'
            subst hw''
            have HO7 : Hid _ := HO.out.later n1.below
            have HR7 : Hid _ := DRow.later HR.out n1.below
            have HB7 : Hid (Below w.heap.size w n1.w) := HB.out.trans (n1.below.mono HB.out.size)
            clear HL1 p0' p1' q0' q1' HO HR HB
            generalize n1.w = u7 at *
            clear hne n1
            go_wp2
            go_roundw
            case rel => exact ⟨q + 1, by omega, by go_num, HAll2.out, HO7.out, HR7.out, HB7.out⟩
            case measure => simp [intOf]; omega
          | false =>
            rw [hl] at HL1
            by_cases hxd : x = d
            · have HF : Hid (DotMath.ins d acc = acc) := by
                show _ = _
                exact DotMath.ins_has d acc q HAll.out (by rw [← HM.out]; exact hqm) (by rw [← HX.out]; exact hxd)
              subst hxd
              clear hl
              go_upto_region 6 with (fail)
              (try simp only [Act.put])
              refine wp_region_grow (by kernel_rfl) (by kernel_rfl) ?_
              repeat (go_big_quiet_step (first | with_reducible exact grown1_call _ (HL1.out _) | fail))
              refine wpQuiet_nil ?_
              intro _ hw'
              obtain ⟨n1, hw''⟩ := hw'
              subst hw''
              have HO7 : Hid _ := HO.out.later n1.below
              have HR7 : Hid _ := DRow.later HR.out n1.below
              have HB7 : Hid (Below w.heap.size w n1.w) := HB.out.trans (n1.below.mono HB.out.size)
              clear HL1 p0' p1' q0' q1' HO HR HB
              generalize n1.w = u7 at *
              clear hne n1
              go_upto_region 8 with (fail)
              obtain ⟨p0, p1⟩ := HCk.out u7 HB7.out
              have hne : Nonempty (Grown1 u7) := ⟨⟨u7, Below.refl _ _⟩⟩
              have p0' := fun u : Grown1 u7 => grown1_cell p0 u
              have p1' := fun u : Grown1 u7 => grown1_cell p1 u
              clear p0 p1
              obtain ⟨q0, q1⟩ := DRow.cells HR7.out (i := q) (by rw [← HM.out]; omega)
              rw [← HX.out] at q0 q1
              have q0' := fun u : Grown1 u7 => grown1_cell q0 u
              have q1' := fun u : Grown1 u7 => grown1_cell q1 u
              clear q0 q1
              (try simp only [Act.put])
              refine wp_region_grow (by kernel_rfl) (by kernel_rfl) ?_
              repeat (go_big_quiet_step (first | fail))
              refine wpQuiet_nil ?_
              intro _ hw'
              obtain ⟨n1, hw''⟩ := hw'
              subst hw''
              have HO8 : Hid _ := HO7.out.later n1.below
              have HR8 : Hid _ := DRow.later HR7.out n1.below
              have HB8 : Hid (Below w.heap.size w n1.w) := HB7.out.trans (n1.below.mono HB7.out.size)
              clear p0' p1' q0' q1' HO7 HR7 HB7
              generalize n1.w = u8 at *
              clear hne n1
              go_wp2
              go_roundw
              case rel => exact ⟨k + 1, by omega, by go_num, HFin.out _ _ (by rw [HF.out]; exact HO8.out), HB8.out⟩
              case measure => simp [intOf]; omega
            · have HF : Hid (DotMath.ins d acc = acc.take q ++ d :: acc.drop q) := by
                show _ = _
                exact DotMath.ins_at d acc q HAll.out (by rw [← HM.out]; omega) (.inr ⟨by rw [← HX.out]; exact hl, by rw [← HX.out]; exact hxd⟩)
              have HNe : Hid _ := dne_cases hxd
              clear hl hxd
              go_upto_region 6 with (fail)
              (try simp only [Act.put])
              refine wp_region_grow (by kernel_rfl) (by kernel_rfl) ?_
              repeat (go_big_quiet_step (first | with_reducible exact grown1_call _ (HL1.out _) | fail))
              refine wpQuiet_nil ?_
              intro _ hw'
              obtain ⟨n1, hw''⟩ := hw'
              subst hw''
              have HO7 : Hid _ := HO.out.later n1.below
              have HR7 : Hid _ := DRow.later HR.out n1.below
              have HB7 : Hid (Below w.heap.size w n1.w) := HB.out.trans (n1.below.mono HB.out.size)
              clear HL1 p0' p1' q0' q1' HO HR HB
              generalize n1.w = u7 at *
              clear hne n1
              go_upto_region 8 with (fail)
              rcases HNe.out with e1 | ⟨e1, e2⟩
              all_goals
                obtain ⟨p0, p1⟩ := HCk.out u7 HB7.out
                have hne : Nonempty (Grown1 u7) := ⟨⟨u7, Below.refl _ _⟩⟩
                have p0' := fun u : Grown1 u7 => grown1_cell p0 u
                have p1' := fun u : Grown1 u7 => grown1_cell p1 u
                clear p0 p1
                obtain ⟨q0, q1⟩ := DRow.cells HR7.out (i := q) (by rw [← HM.out]; omega)
                rw [← HX.out] at q0 q1
                have q0' := fun u : Grown1 u7 => grown1_cell q0 u
                have q1' := fun u : Grown1 u7 => grown1_cell q1 u
                clear q0 q1
                (try simp only [Act.put])
                refine wp_region_grow (by kernel_rfl) (by kernel_rfl) ?_
                repeat (go_big_quiet_step (first | fail))
                refine wpQuiet_nil ?_
                intro _ hw'
                obtain ⟨n1, hw''⟩ := hw'
                subst hw''
                have HO8 : Hid _ := HO7.out.later n1.below
                have HR8 : Hid _ := DRow.later HR7.out n1.below
                have HB8 : Hid (Below w.heap.size w n1.w) := HB7.out.trans (n1.below.mono HB7.out.size)
                clear p0' p1' q0' q1' HO7 HR7 HB7
                generalize n1.w = u8 at *
                clear hne n1
                go_upto_region 9 with (fail)
                obtain ⟨at1, at2, hk1, hk2, hr1, hr2, hn1, hn2⟩ := cuts_of HR8.out HM.out hac HNil.out hq
                obtain ⟨p0, p1⟩ := HCk.out u8 HB8.out
                have hl1 : (acc.take q).length = q := by have := HM.out; simp; omega
                have hl2 : (acc.drop q).length = m - q := by have := HM.out; simp; omega
                have HL1' : Hid ((acc.take q).length = q) := hl1
                have HL2' : Hid ((acc.drop q).length = m - q) := hl2
                have HN1 : Hid (at1 = none → q = 0) := hn1
                have HN2 : Hid (at2 = none → c - q = 0) := hn2
                have HR1 : Hid (DRow u8.drew at1 (acc.take q)) := hr1
                have HR2 : Hid (DRow u8.drew at2 (acc.drop q)) := hr2
                have HB9 : Hid (Below w.heap.size w u8.drew) := HB8.out.drew
                clear hr1 hr2 hl1 hl2 hn1 hn2 HO8 HR8 HB8
                refine wp_region_held_drew (S := fun w' => w'.cell? ⟨b, off + k * 2, none⟩ = some (.int .i64 d.r) ∧ w'.cell? ⟨b, off + k * 2 + 1, none⟩ = some (.int .i64 d.s)) (by kernel_rfl) ⟨p0, p1⟩ (fun hS => ?_)
                clear p0 p1
                generalize u8.drew = v0 at *
                refine wpAnyH_take (i := 0) (v := ?_) rfl (by kernel_rfl) (by kernel_rfl) (by kernel_rfl) (fun _ _ _ h => h) (Or.inl ⟨by rfl, ?_⟩) hS ?_
                rotate_left 1
                · intro w hSw; (try dsimp only at hSw); go_simp <;> with_reducible rfl
                simp only [List.getElem_toArray, List.getElem_cons_zero, List.getElem_cons_succ, Act.put, List.setIfInBounds_toArray, List.set_cons_zero, List.set_cons_succ]
                refine wpAnyH_take (i := 1) (v := ?_) rfl (by kernel_rfl) (by kernel_rfl) (by kernel_rfl) (fun _ _ _ h => h) (Or.inl ⟨by rfl, ?_⟩) hS ?_
                rotate_left 1
                · intro w hSw; (try dsimp only at hSw); go_simp <;> with_reducible rfl
                simp only [List.getElem_toArray, List.getElem_cons_zero, List.getElem_cons_succ, Act.put, List.setIfInBounds_toArray, List.set_cons_zero, List.set_cons_succ]
                refine wpAnyH_take (i := 2) (v := ?_) rfl (by kernel_rfl) (by kernel_rfl) (by kernel_rfl) (fun _ _ _ h => h) (Or.inl ⟨by rfl, ?_⟩) hS ?_
                rotate_left 1
                · intro w hSw; (try dsimp only at hSw); go_simp <;> with_reducible rfl
                simp only [List.getElem_toArray, List.getElem_cons_zero, List.getElem_cons_succ, Act.put, List.setIfInBounds_toArray, List.set_cons_zero, List.set_cons_succ]
                refine wpAnyH_take (i := 3) (v := ?_) rfl (by kernel_rfl) (by kernel_rfl) (by kernel_rfl) (fun _ _ _ h => h) (Or.inl ⟨by rfl, ?_⟩) hS ?_
                rotate_left 1
                · intro w hSw; (try dsimp only at hSw); go_simp <;> with_reducible rfl
                simp only [List.getElem_toArray, List.getElem_cons_zero, List.getElem_cons_succ, Act.put, List.setIfInBounds_toArray, List.set_cons_zero, List.set_cons_succ]
                refine wpAnyH_take (i := 4) (v := ?_) rfl (by kernel_rfl) (by kernel_rfl) (by kernel_rfl) (fun _ _ _ h => h) (Or.inl ⟨by rfl, ?_⟩) hS ?_
                rotate_left 1
                · intro w hSw; (try dsimp only at hSw); go_simp <;> with_reducible rfl
                simp only [List.getElem_toArray, List.getElem_cons_zero, List.getElem_cons_succ, Act.put, List.setIfInBounds_toArray, List.set_cons_zero, List.set_cons_succ]
                refine wpAnyH_take (i := 5) (v := ?_) rfl (by kernel_rfl) (by kernel_rfl) (by kernel_rfl) (fun _ _ _ h => h) (Or.inl ⟨by rfl, ?_⟩) hS ?_
                rotate_left 1
                · intro w hSw; (try dsimp only at hSw); go_simp <;> with_reducible rfl
                simp only [List.getElem_toArray, List.getElem_cons_zero, List.getElem_cons_succ, Act.put, List.setIfInBounds_toArray, List.set_cons_zero, List.set_cons_succ]
                refine wpAnyH_take (i := 6) (v := ?_) rfl (by kernel_rfl) (by kernel_rfl) (by kernel_rfl) (fun _ _ _ h => h) (Or.inl ⟨by rfl, ?_⟩) hS ?_
                rotate_left 1
                · intro w hSw; (try dsimp only at hSw); go_simp <;> with_reducible rfl
                simp only [List.getElem_toArray, List.getElem_cons_zero, List.getElem_cons_succ, Act.put, List.setIfInBounds_toArray, List.set_cons_zero, List.set_cons_succ]
                refine wpAnyH_take (i := 7) (v := ?_) rfl (by kernel_rfl) (by kernel_rfl) (by kernel_rfl) (fun _ _ _ h => h) (Or.inl ⟨by rfl, ?_⟩) hS ?_
                rotate_left 1
                · intro w hSw; (try dsimp only at hSw); go_simp <;> with_reducible rfl
                simp only [List.getElem_toArray, List.getElem_cons_zero, List.getElem_cons_succ, Act.put, List.setIfInBounds_toArray, List.set_cons_zero, List.set_cons_succ]
                refine wpAnyH_take (i := 9) (v := ?_) rfl (by kernel_rfl) (by kernel_rfl) (by kernel_rfl) (fun _ _ _ h => h) (Or.inl ⟨by rfl, ?_⟩) hS ?_
                rotate_left 1
                · intro w hSw; (try dsimp only at hSw); go_simp <;> with_reducible rfl
                simp only [List.getElem_toArray, List.getElem_cons_zero, List.getElem_cons_succ, Act.put, List.setIfInBounds_toArray, List.set_cons_zero, List.set_cons_succ]
                refine wpAnyH_take (i := 10) (v := ?_) rfl (by kernel_rfl) (by kernel_rfl) (by kernel_rfl) (fun _ _ _ h => h) (Or.inl ⟨by rfl, ?_⟩) hS ?_
                rotate_left 1
                · intro w hSw; (try dsimp only at hSw); go_simp <;> with_reducible rfl
                simp only [List.getElem_toArray, List.getElem_cons_zero, List.getElem_cons_succ, Act.put, List.setIfInBounds_toArray, List.set_cons_zero, List.set_cons_succ]
                refine wpAnyH_take (i := 11) (v := ?_) rfl (by kernel_rfl) (by kernel_rfl) (by kernel_rfl) (fun _ _ _ h => h) (Or.inl ⟨by rfl, ?_⟩) hS ?_
                rotate_left 1
                · intro w hSw; (try dsimp only at hSw); go_simp <;> with_reducible rfl
                simp only [List.getElem_toArray, List.getElem_cons_zero, List.getElem_cons_succ, Act.put, List.setIfInBounds_toArray, List.set_cons_zero, List.set_cons_succ]
                refine wpAnyH_ready (rs := [8]) (by kernel_rfl) (by simp) ?_
                refine AllReadyH.cons rfl (fun K hK => ?_) AllReadyH.nil
                go_simp
                have HBv : Hid (Below v0.heap.size v0 (v0.alloc (.cells #[.int .i64 d.r, .int .i64 d.s] 23))) := (Below.refl _ _).alloc (Nat.le_refl _) _
                have HLi : Hid (DOwn (v0.alloc (.cells #[.int .i64 d.r, .int .i64 d.s] 23)) v0.heap.size (.slice (some ⟨v0.heap.size, 0, none⟩) 1 1) [d]) := own_lit v0 d
                have HB10 : Hid (Below w.heap.size w (v0.alloc (.cells #[.int .i64 d.r, .int .i64 d.s] 23))) := HB9.out.trans (HBv.out.mono HB9.out.size)
                obtain ⟨p0, p1⟩ := HCk.out _ HB10.out
                refine hK.out _ _ ⟨p0, p1⟩ (fun hS => ?_)
                clear hK K p0 p1 HB10
                generalize v0.alloc (.cells #[.int .i64 d.r, .int .i64 d.s] 23) = v1 at *
                refine wpAnyH_ready (rs := [12]) (by kernel_rfl) (by simp) ?_
                refine AllReadyH.cons rfl (fun K hK => ?_) AllReadyH.nil
                refine wp_app_dots _ _ rfl v0.heap.size _ [d] rfl HLi.out at2 (c - q) (acc.drop q) (m - q) HL2'.out.symm rfl (DRow.later HR2.out HBv.out) HN2.out (by omega) (by have := HL2'.out; simp at this ⊢; omega) HBv.out.size ?_
                intro v2 w2 hown2 hgrow2
                have HBw : Hid (Below v0.heap.size v0 w2) := HBv.out.grown hgrow2 HBv.out.size (fun j hj => (HLi.out.lt j hj).1)
                have HB10 : Hid (Below w.heap.size w w2) := HB9.out.trans (HBw.out.mono HB9.out.size)
                have HR1w : Hid (DRow w2 at1 (acc.take q)) := DRow.later HR1.out HBw.out
                obtain ⟨ao3, c3, rfl, hr3, hc3, hm3, hn3⟩ := hown2.dots
                obtain ⟨b3, o3, rfl, _⟩ := DRow.at hr3 (by simp)
                have HR3 : Hid (DRow w2 (some ⟨b3, o3, none⟩) ([d] ++ acc.drop q)) := hr3
                have hlen3 : ([d] ++ acc.drop q).length = m - q + 1 := by have := HL2'.out; simp at this ⊢; omega
                rw [hlen3]
                obtain ⟨p0, p1⟩ := HCk.out _ HB10.out
                refine hK.out _ _ ⟨p0, p1⟩ (fun hS => ?_)
                clear hK K p0 p1 hown2 hgrow2 HBv HLi HR1 HR2 hr3 hc3 hm3 hn3
                refine wpAnyH_ready (rs := [13]) (by kernel_rfl) (by simp) ?_
                refine AllReadyH.cons rfl (fun K hK => ?_) AllReadyH.nil
                refine wp_app_full _ _ rfl at1 (acc.take q) q HL1'.out.symm rfl HR1w.out ⟨b3, o3, none⟩ c3 ([d] ++ acc.drop q) (m - q + 1) hlen3.symm rfl HR3.out (by omega) HN1.out (by rw [hlen3, HL1'.out]; omega) ?_
                intro v3 w3 hown3 hgrow3
                have HO10 : Hid (DOwn w3 w.heap.size v3 (acc.take q ++ d :: acc.drop q)) := DOwn.mono hown3 HB10.out.size
                have HB11 : Hid (Below w.heap.size w w3) := HB10.out.grown hgrow3 HB10.out.size (fun j hj => by cases hj)
                obtain ⟨p0, p1⟩ := HCk.out _ HB11.out
                refine hK.out _ _ ⟨p0, p1⟩ (fun hS => ?_)
                clear hK K p0 p1 hown3 hgrow3
                refine wpAnyH_take (i := 14) (v := ?_) rfl (by kernel_rfl) (by kernel_rfl) (by kernel_rfl) (fun _ _ _ h => h) (Or.inl ⟨by rfl, ?_⟩) hS ?_
                rotate_left 1
                · intro w hSw; (try dsimp only at hSw); go_simp <;> with_reducible rfl
                simp only [List.getElem_toArray, List.getElem_cons_zero, List.getElem_cons_succ, Act.put, List.setIfInBounds_toArray, List.set_cons_zero, List.set_cons_succ]
                refine wpAnyH_done (by kernel_rfl) ?_ _
                go_wp2
                go_roundw
                case rel => exact ⟨k + 1, by omega, by go_num, HFin.out _ _ (by rw [HF.out]; exact HO10.out), HB11.out⟩
                case measure => simp [intOf]; omega
        · obtain rfl : q = m := by omega
          have HF : Hid (DotMath.ins d acc = acc.take q ++ d :: acc.drop q) := by
            show _ = _
            exact DotMath.ins_at d acc q HAll.out (by rw [← HM.out]; omega) (.inl HM.out)
          clear hqm
          go_upto_region 6 with (fail)
          (try simp only [Act.put])
          refine wp_region_grow (by kernel_rfl) (by kernel_rfl) ?_
          repeat (go_big_quiet_step (first | fail))
          refine wpQuiet_nil ?_
          intro _ hw'
          obtain ⟨n1, hw''⟩ := hw'
          subst hw''
          have HO7 : Hid _ := HO.out.later n1.below
          have HR7 : Hid _ := DRow.later HR.out n1.below
          have HB7 : Hid (Below w.heap.size w n1.w) := HB.out.trans (n1.below.mono HB.out.size)
          clear p0' p1' HO HR HB
          generalize n1.w = u7 at *
          clear hne n1
          go_upto_region 8 with (fail)
          obtain ⟨p0, p1⟩ := HCk.out u7 HB7.out
          have hne : Nonempty (Grown1 u7) := ⟨⟨u7, Below.refl _ _⟩⟩
          have p0' := fun u : Grown1 u7 => grown1_cell p0 u
          have p1' := fun u : Grown1 u7 => grown1_cell p1 u
          clear p0 p1
          (try simp only [Act.put])
          refine wp_region_grow (by kernel_rfl) (by kernel_rfl) ?_
          repeat (go_big_quiet_step (first | fail))
          refine wpQuiet_nil ?_
          intro _ hw'
          obtain ⟨n1, hw''⟩ := hw'
          subst hw''
          have HO8 : Hid _ := HO7.out.later n1.below
          have HR8 : Hid _ := DRow.later HR7.out n1.below
          have HB8 : Hid (Below w.heap.size w n1.w) := HB7.out.trans (n1.below.mono HB7.out.size)
          clear p0' p1' HO7 HR7 HB7
          generalize n1.w = u8 at *
          clear hne n1
          go_upto_region 9 with (fail)
          obtain ⟨at1, at2, hk1, hk2, hr1, hr2, hn1, hn2⟩ := cuts_of HR8.out HM.out hac HNil.out hq
          obtain ⟨p0, p1⟩ := HCk.out u8 HB8.out
          have hl1 : (acc.take q).length = q := by have := HM.out; simp; omega
          have hl2 : (acc.drop q).length = 0 := by have := HM.out; simp; omega
          have HL1' : Hid ((acc.take q).length = q) := hl1
          have HL2' : Hid ((acc.drop q).length = 0) := hl2
          have HN1 : Hid (at1 = none → q = 0) := hn1
          have HN2 : Hid (at2 = none → c - q = 0) := hn2
          have HR1 : Hid (DRow u8.drew at1 (acc.take q)) := hr1
          have HR2 : Hid (DRow u8.drew at2 (acc.drop q)) := hr2
          have HB9 : Hid (Below w.heap.size w u8.drew) := HB8.out.drew
          clear hr1 hr2 hl1 hl2 hn1 hn2 HO8 HR8 HB8
          refine wp_region_held_drew (S := fun w' => w'.cell? ⟨b, off + k * 2, none⟩ = some (.int .i64 d.r) ∧ w'.cell? ⟨b, off + k * 2 + 1, none⟩ = some (.int .i64 d.s)) (by kernel_rfl) ⟨p0, p1⟩ (fun hS => ?_)
          clear p0 p1
          generalize u8.drew = v0 at *
          refine wpAnyH_take (i := 0) (v := ?_) rfl (by kernel_rfl) (by kernel_rfl) (by kernel_rfl) (fun _ _ _ h => h) (Or.inl ⟨by rfl, ?_⟩) hS ?_
          rotate_left 1
          · intro w hSw; (try dsimp only at hSw); go_simp <;> with_reducible rfl
          simp only [List.getElem_toArray, List.getElem_cons_zero, List.getElem_cons_succ, Act.put, List.setIfInBounds_toArray, List.set_cons_zero, List.set_cons_succ]
          refine wpAnyH_take (i := 1) (v := ?_) rfl (by kernel_rfl) (by kernel_rfl) (by kernel_rfl) (fun _ _ _ h => h) (Or.inl ⟨by rfl, ?_⟩) hS ?_
          rotate_left 1
          · intro w hSw; (try dsimp only at hSw); go_simp <;> with_reducible rfl
          simp only [List.getElem_toArray, List.getElem_cons_zero, List.getElem_cons_succ, Act.put, List.setIfInBounds_toArray, List.set_cons_zero, List.set_cons_succ]
          refine wpAnyH_take (i := 2) (v := ?_) rfl (by kernel_rfl) (by kernel_rfl) (by kernel_rfl) (fun _ _ _ h => h) (Or.inl ⟨by rfl, ?_⟩) hS ?_
          rotate_left 1
          · intro w hSw; (try dsimp only at hSw); go_simp <;> with_reducible rfl
          simp only [List.getElem_toArray, List.getElem_cons_zero, List.getElem_cons_succ, Act.put, List.setIfInBounds_toArray, List.set_cons_zero, List.set_cons_succ]
          refine wpAnyH_take (i := 3) (v := ?_) rfl (by kernel_rfl) (by kernel_rfl) (by kernel_rfl) (fun _ _ _ h => h) (Or.inl ⟨by rfl, ?_⟩) hS ?_
          rotate_left 1
          · intro w hSw; (try dsimp only at hSw); go_simp <;> with_reducible rfl
          simp only [List.getElem_toArray, List.getElem_cons_zero, List.getElem_cons_succ, Act.put, List.setIfInBounds_toArray, List.set_cons_zero, List.set_cons_succ]
          refine wpAnyH_take (i := 4) (v := ?_) rfl (by kernel_rfl) (by kernel_rfl) (by kernel_rfl) (fun _ _ _ h => h) (Or.inl ⟨by rfl, ?_⟩) hS ?_
          rotate_left 1
          · intro w hSw; (try dsimp only at hSw); go_simp <;> with_reducible rfl
          simp only [List.getElem_toArray, List.getElem_cons_zero, List.getElem_cons_succ, Act.put, List.setIfInBounds_toArray, List.set_cons_zero, List.set_cons_succ]
          refine wpAnyH_take (i := 5) (v := ?_) rfl (by kernel_rfl) (by kernel_rfl) (by kernel_rfl) (fun _ _ _ h => h) (Or.inl ⟨by rfl, ?_⟩) hS ?_
          rotate_left 1
          · intro w hSw; (try dsimp only at hSw); go_simp <;> with_reducible rfl
          simp only [List.getElem_toArray, List.getElem_cons_zero, List.getElem_cons_succ, Act.put, List.setIfInBounds_toArray, List.set_cons_zero, List.set_cons_succ]
          refine wpAnyH_take (i := 6) (v := ?_) rfl (by kernel_rfl) (by kernel_rfl) (by kernel_rfl) (fun _ _ _ h => h) (Or.inl ⟨by rfl, ?_⟩) hS ?_
          rotate_left 1
          · intro w hSw; (try dsimp only at hSw); go_simp <;> with_reducible rfl
          simp only [List.getElem_toArray, List.getElem_cons_zero, List.getElem_cons_succ, Act.put, List.setIfInBounds_toArray, List.set_cons_zero, List.set_cons_succ]
          refine wpAnyH_take (i := 7) (v := ?_) rfl (by kernel_rfl) (by kernel_rfl) (by kernel_rfl) (fun _ _ _ h => h) (Or.inl ⟨by rfl, ?_⟩) hS ?_
          rotate_left 1
          · intro w hSw; (try dsimp only at hSw); go_simp <;> with_reducible rfl
          simp only [List.getElem_toArray, List.getElem_cons_zero, List.getElem_cons_succ, Act.put, List.setIfInBounds_toArray, List.set_cons_zero, List.set_cons_succ]
          refine wpAnyH_take (i := 9) (v := ?_) rfl (by kernel_rfl) (by kernel_rfl) (by kernel_rfl) (fun _ _ _ h => h) (Or.inl ⟨by rfl, ?_⟩) hS ?_
          rotate_left 1
          · intro w hSw; (try dsimp only at hSw); go_simp <;> with_reducible rfl
          simp only [List.getElem_toArray, List.getElem_cons_zero, List.getElem_cons_succ, Act.put, List.setIfInBounds_toArray, List.set_cons_zero, List.set_cons_succ]
          refine wpAnyH_take (i := 10) (v := ?_) rfl (by kernel_rfl) (by kernel_rfl) (by kernel_rfl) (fun _ _ _ h => h) (Or.inl ⟨by rfl, ?_⟩) hS ?_
          rotate_left 1
          · intro w hSw; (try dsimp only at hSw); go_simp <;> with_reducible rfl
          simp only [List.getElem_toArray, List.getElem_cons_zero, List.getElem_cons_succ, Act.put, List.setIfInBounds_toArray, List.set_cons_zero, List.set_cons_succ]
          refine wpAnyH_take (i := 11) (v := ?_) rfl (by kernel_rfl) (by kernel_rfl) (by kernel_rfl) (fun _ _ _ h => h) (Or.inl ⟨by rfl, ?_⟩) hS ?_
          rotate_left 1
          · intro w hSw; (try dsimp only at hSw); go_simp <;> with_reducible rfl
          simp only [List.getElem_toArray, List.getElem_cons_zero, List.getElem_cons_succ, Act.put, List.setIfInBounds_toArray, List.set_cons_zero, List.set_cons_succ]
          refine wpAnyH_ready (rs := [8]) (by kernel_rfl) (by simp) ?_
          refine AllReadyH.cons rfl (fun K hK => ?_) AllReadyH.nil
          go_simp
          have HBv : Hid (Below v0.heap.size v0 (v0.alloc (.cells #[.int .i64 d.r, .int .i64 d.s] 23))) := (Below.refl _ _).alloc (Nat.le_refl _) _
          have HLi : Hid (DOwn (v0.alloc (.cells #[.int .i64 d.r, .int .i64 d.s] 23)) v0.heap.size (.slice (some ⟨v0.heap.size, 0, none⟩) 1 1) [d]) := own_lit v0 d
          have HB10 : Hid (Below w.heap.size w (v0.alloc (.cells #[.int .i64 d.r, .int .i64 d.s] 23))) := HB9.out.trans (HBv.out.mono HB9.out.size)
          obtain ⟨p0, p1⟩ := HCk.out _ HB10.out
          refine hK.out _ _ ⟨p0, p1⟩ (fun hS => ?_)
          clear hK K p0 p1 HB10
          generalize v0.alloc (.cells #[.int .i64 d.r, .int .i64 d.s] 23) = v1 at *
          refine wpAnyH_ready (rs := [12]) (by kernel_rfl) (by simp) ?_
          refine AllReadyH.cons rfl (fun K hK => ?_) AllReadyH.nil
          refine wp_app_dots _ _ rfl v0.heap.size _ [d] rfl HLi.out at2 (c - q) (acc.drop q) 0 HL2'.out.symm rfl (DRow.later HR2.out HBv.out) HN2.out (by omega) (by have := HL2'.out; simp at this ⊢; omega) HBv.out.size ?_
          intro v2 w2 hown2 hgrow2
          have HBw : Hid (Below v0.heap.size v0 w2) := HBv.out.grown hgrow2 HBv.out.size (fun j hj => (HLi.out.lt j hj).1)
          have HB10 : Hid (Below w.heap.size w w2) := HB9.out.trans (HBw.out.mono HB9.out.size)
          have HR1w : Hid (DRow w2 at1 (acc.take q)) := DRow.later HR1.out HBw.out
          obtain ⟨ao3, c3, rfl, hr3, hc3, hm3, hn3⟩ := hown2.dots
          obtain ⟨b3, o3, rfl, _⟩ := DRow.at hr3 (by simp)
          have HR3 : Hid (DRow w2 (some ⟨b3, o3, none⟩) ([d] ++ acc.drop q)) := hr3
          have hlen3 : ([d] ++ acc.drop q).length = 1 := by have := HL2'.out; simp at this ⊢; omega
          rw [hlen3]
          obtain ⟨p0, p1⟩ := HCk.out _ HB10.out
          refine hK.out _ _ ⟨p0, p1⟩ (fun hS => ?_)
          clear hK K p0 p1 hown2 hgrow2 HBv HLi HR1 HR2 hr3 hc3 hm3 hn3
          refine wpAnyH_ready (rs := [13]) (by kernel_rfl) (by simp) ?_
          refine AllReadyH.cons rfl (fun K hK => ?_) AllReadyH.nil
          refine wp_app_full _ _ rfl at1 (acc.take q) q HL1'.out.symm rfl HR1w.out ⟨b3, o3, none⟩ c3 ([d] ++ acc.drop q) (1) hlen3.symm rfl HR3.out (by omega) HN1.out (by rw [hlen3, HL1'.out]; omega) ?_
          intro v3 w3 hown3 hgrow3
          have HO10 : Hid (DOwn w3 w.heap.size v3 (acc.take q ++ d :: acc.drop q)) := DOwn.mono hown3 HB10.out.size
          have HB11 : Hid (Below w.heap.size w w3) := HB10.out.grown hgrow3 HB10.out.size (fun j hj => by cases hj)
          obtain ⟨p0, p1⟩ := HCk.out _ HB11.out
          refine hK.out _ _ ⟨p0, p1⟩ (fun hS => ?_)
          clear hK K p0 p1 hown3 hgrow3
          refine wpAnyH_take (i := 14) (v := ?_) rfl (by kernel_rfl) (by kernel_rfl) (by kernel_rfl) (fun _ _ _ h => h) (Or.inl ⟨by rfl, ?_⟩) hS ?_
          rotate_left 1
          · intro w hSw; (try dsimp only at hSw); go_simp <;> with_reducible rfl
          simp only [List.getElem_toArray, List.getElem_cons_zero, List.getElem_cons_succ, Act.put, List.setIfInBounds_toArray, List.set_cons_zero, List.set_cons_succ]
          refine wpAnyH_done (by kernel_rfl) ?_ _
          go_wp2
          go_roundw
          case rel => exact ⟨k + 1, by omega, by go_num, HFin.out _ _ (by rw [HF.out]; exact HO10.out), HB11.out⟩
          case measure => simp [intOf]; omega
    · have hkk : k = n := by omega
      have hdk : decide ((k : Int) < (n : Int)) = false := by simp; omega
      rw [hkk, HE.out] at hO
      have HO : Hid _ := hO
      have HB : Hid (Below w.heap.size w wr) := hB
      clear hO hB
      go_wp2
      go_ret
      exact ⟨_, rfl, HO.out, HB.out⟩
end Go.Proofs.Ytehaeepihjookaa

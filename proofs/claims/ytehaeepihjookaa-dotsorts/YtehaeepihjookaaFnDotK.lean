/-
  Walk of slices.Compact of dots.
-/
import Derived.Test.YtehaeepihjookaaFnDotJ
namespace Go.Proofs.Ytehaeepihjookaa
open Go.RowKit NumMath
open DotMath (Dt)
open Go.Lib (compactUpTo compactUpTo_succ keeps keeps_pos keeps_neg keeps_lt_one compactUpTo_all range_map_get)
set_option maxRecDepth 100000
set_option linter.unusedVariables false
set_option linter.unusedSimpArgs false

/-- What is kept of the first m places. -/
def kept (d : Array (Int × Int)) (m : Nat) : List Dt := (compactUpTo d m).map DotMath.up
theorem kept_yes {d : Array (Int × Int)} {m : Nat} (h : keeps d m = true) : kept d (m + 1) = kept d m ++ [DotMath.up d[m]!] := by
  unfold kept; rw [compactUpTo_succ, h]; simp
theorem kept_no {d : Array (Int × Int)} {m : Nat} (h : keeps d m = false) : kept d (m + 1) = kept d m := by
  unfold kept; rw [compactUpTo_succ, h]; simp
theorem kept_all (d : Array (Int × Int)) (m : Nat) (hm : m ≤ d.size) (h : ∀ j, j < m → keeps d j = true) : kept d m = (d.toList.map DotMath.up).take m := by
  unfold kept
  rw [compactUpTo_all d m h, ← List.map_take]
  congr 1
  apply List.ext_getElem
  · simp; omega
  · intro i h1 h2
    have hi : i < d.size := by simp at h1; omega
    simp [getElem!_pos, hi]
theorem dsize (d : Array (Int × Int)) : (d.toList.map DotMath.up).length = d.size := by simp
theorem dget (d : Array (Int × Int)) (i : Nat) (h : i < d.size) : (d.toList.map DotMath.up)[i]?.getD DotMath.zero = DotMath.up d[i]! := by
  simp [h, getElem!_pos]
/-- A place of the row behind what was kept is as it was. -/
theorem kept_get (d : Array (Int × Int)) (A : List Dt) (i : Nat) (hA : A.length ≤ i) (h : i < d.size) : (A ++ (d.toList.map DotMath.up).drop A.length)[i]?.getD DotMath.zero = DotMath.up d[i]! := by
  rw [List.getElem?_append_right hA, List.getElem?_drop, show A.length + (i - A.length) = i by omega]
  exact dget d i h
theorem kept_len (d : Array (Int × Int)) (A : List Dt) (h : A.length ≤ d.size) : (A ++ (d.toList.map DotMath.up).drop A.length).length = d.size := by simp; omega

theorem cutD_head {b off L cap p : Nat} (h1 : p ≤ L) (h2 : L ≤ cap) (w : World) : (Instr.sliceAt 25 (.slice (some ⟨b, off, none⟩) L cap) none (some (.int .i64 (p : Int))) none).run Try.prog w = .ok (.slice (some ⟨b, off, none⟩) p cap) w := by
  have h3 : (p : Int) ≤ (cap : Int) := by omega
  have h4 : (0 : Int) ≤ (p : Int) := by omega
  go_simp
/-- A part of a block. -/
theorem wpList_store_part {ops : Array Oper} {rest : List Oper} {op : Oper} {a : Act} {w : World} {Q : Exit → Act → World → Prop} (hgd : op.guard = none) (ty : TypeId) (x y : Operand) (ho : op.op = .store ty x y)
    (g o t : Nat) (l cs : List Value) (hx : a.eval x = .pointer (some ⟨g, o, none⟩)) (hy : a.eval y = .agg cs.toArray) (h : Arr w g t l)
    (hi : (Try.prog.info? ty).map (·.size) = some cs.length) (hfit : o + cs.length ≤ l.length) (h1 : ∀ v ∈ cs, v.oneCell' = true)
    (hn : wpList Try.prog ops Q rest (a.put op.dst undef) (w.setRow g (l.take o ++ cs ++ l.drop (o + cs.length)).toArray)) : wpList Try.prog ops Q (op :: rest) a w := by
  have hst := run_storeCells_at (P := Try.prog) g o t cs 0 l.toArray w h (by simpa using hfit) h1
  have hsv : (storeVar ty ⟨g, o, none⟩ (.agg cs.toArray)).run Try.prog w = .ok () (w.setRow g (l.take o ++ cs ++ l.drop (o + cs.length)).toArray) := by
    cases hq : Try.prog.info? ty with
    | none => simp [hq] at hi
    | some i =>
      have hs : cs.length = i.size := by simp [hq] at hi; omega
      simp only [Nat.add_zero] at hst
      simp [storeVar, sizeOf, typeInfo, hq, Value.cells, hs, hst]
  refine wpList_plain hgd fun K hK => ?_
  unfold Oper.wp execOp
  simp only [ho, hx, hy, Instr.storeAt, Instr.sureAddr, Sem.run_bind, Sem.run_pure, Result.andThen_ok, hsv]
  exact hK _ _ hn

set_option maxHeartbeats 16000000 in
theorem compact_any (d : Array (Int × Int)) (g cap : Nat) (rest : List Value) (base : Nat) (w : World) (hbase : base ≤ g) (hA : Arr w g 23 (flatD (d.toList.map DotMath.up) ++ rest))
    (hlen : (flatD (d.toList.map DotMath.up) ++ rest).length = cap * 2) (hc : d.size ≤ cap) (hm : cap ≤ maxLen) :
    Calls Try.prog 29 #[.slice (some ⟨g, 0, none⟩) d.size cap] w fun e w' => ∃ v, e = .returned v ∧ DOwn w' base v (kept d d.size) ∧ Below base w w' := by
  have HM : Hid (cap ≤ maxLen) := hm
  have HBg : Hid (base ≤ g) := hbase
  have HLen : Hid ((flatD (d.toList.map DotMath.up) ++ rest).length = cap * 2) := hlen
  have HSame : Hid ((∀ j, j < d.size → keeps d j = true) → ∀ w', Arr w' g 23 (flatD (d.toList.map DotMath.up) ++ rest) → DOwn w' base (.slice (some ⟨g, 0, none⟩) d.size cap) (kept d d.size)) := fun h w' hA' => by
    rw [kept_all d d.size (Nat.le_refl _) h, List.take_of_length_le (by rw [dsize]; exact Nat.le_refl _)]
    have := blk_own (base := base) hbase hA' hlen (by rw [dsize]; exact hc) hm
    rw [dsize] at this; exact this
  have HA : Hid (Arr w g 23 (flatD (d.toList.map DotMath.up) ++ rest)) := hA
  have HD : Hid (∀ i, i < d.size → (d.toList.map DotMath.up)[i]?.getD DotMath.zero = DotMath.up d[i]!) := dget d
  have HK1 : Hid (∀ j, j < 1 → keeps d j = true) := keeps_lt_one d
  unfold maxLen at hm
  clear hlen hA hbase
  obtain ⟨n, hn⟩ : ∃ n, n = d.size := ⟨_, rfl⟩
  have HN : Hid (n = d.size) := hn
  rw [← hn] at hc HSame HD ⊢
  clear hn
  by_cases h2 : n < 2
  · go_enter Try.func29, Try.ntmps29
    go_wp2
    go_ret
    exact ⟨_, rfl, HSame.out (fun j hj => HK1.out j (by omega)) _ HA.out, Below.refl _ _⟩
  go_enter Try.func29, Try.ntmps29
  go_wp2
  go_loopw [3] (fun i wr => ∃ k : Nat, k + 1 ≤ n ∧ i = .int .i64 ((k + 1 : Nat) : Int) ∧ Hid (∀ j, j < k + 1 → keeps d j = true) ∧ Arr wr g 23 (flatD (d.toList.map DotMath.up) ++ rest) ∧ Below base w wr) (fun i _ => n - (intOf i).toNat)
  case atStart => exact ⟨0, by omega, rfl, HK1, HA.out, Below.refl _ _⟩
  case round =>
    obtain ⟨k, hk, rfl, HK, hAr, hB⟩ := hrel
    clear HA
    have HA : Hid (Arr wr g 23 (flatD (d.toList.map DotMath.up) ++ rest)) := hAr
    have HB : Hid (Below base w wr) := hB
    clear hAr hB
    by_cases hkn : k + 1 < n
    · have hki : ((k + 1 : Nat) : Int) < (n : Int) := by omega
      have hkc : ((k + 1 : Nat) : Int) < (cap : Int) := by omega
      have hki' : (k : Int) + 1 < (n : Int) := by omega
      have hkc' : (k : Int) + 1 < (cap : Int) := by omega
      have hki2 : (k : Int) < (n : Int) := by omega
      have hkc2 : (k : Int) < (cap : Int) := by omega
      obtain ⟨p0, p1⟩ := DRow.cells (drow_blk HA.out) (i := k + 1) (by rw [dsize, ← HN.out]; exact hkn)
      obtain ⟨q0, q1⟩ := DRow.cells (drow_blk HA.out) (i := k) (by rw [dsize, ← HN.out]; omega)
      rw [HD.out (k + 1) hkn, Nat.zero_add] at p0 p1
      rw [HD.out k (by omega), Nat.zero_add] at q0 q1
      have HX : Hid (∀ x y, x = DotMath.up d[k + 1]! → y = DotMath.up d[k]! → x ≠ y → keeps d (k + 1) = true) := fun x y hx hy hxy => keeps_pos (fun e => hxy (by rw [hx, hy, e]; rfl))
      have HY : Hid (∀ x y, x = DotMath.up d[k + 1]! → y = DotMath.up d[k]! → x = y → keeps d (k + 1) = false) := fun x y hx hy hxy => keeps_neg (by omega) (DotMath.up_inj (by rw [← hx, hxy, hy]; rfl))
      obtain ⟨x, hx⟩ : ∃ x, x = DotMath.up d[k + 1]! := ⟨_, rfl⟩
      obtain ⟨y, hy⟩ : ∃ y, y = DotMath.up d[k]! := ⟨_, rfl⟩
      have HX2 := HX.out x y hx hy
      have HY2 := HY.out x y hx hy
      rw [← hx] at p0 p1
      rw [← hy] at q0 q1
      clear hx hy HX HY
      have hne : Nonempty (Grown1 wr) := ⟨⟨wr, Below.refl _ _⟩⟩
      have p0' := fun u : Grown1 wr => grown1_cell p0 u
      have p1' := fun u : Grown1 wr => grown1_cell p1 u
      have q0' := fun u : Grown1 wr => grown1_cell q0 u
      have q1' := fun u : Grown1 wr => grown1_cell q1 u
      clear p0 p1 q0 q1
      by_cases hxy : x = y
      · have HKn : Hid (keeps d (k + 1) = false) := HY2 hxy
        clear HX2 HY2
        subst hxy
        go_upto_region 6 with (fail)
        (try simp only [Act.put])
        refine wp_region_grow (by kernel_rfl) (by kernel_rfl) ?_
        repeat (go_big_quiet_step (fail))
        refine wpQuiet_nil ?_
        intro _ hw'
        obtain ⟨n1, hw''⟩ := hw'
        subst hw''
        have HA2 : Hid (Arr n1.w g 23 (flatD (d.toList.map DotMath.up) ++ rest)) := HA.out.later n1.below HA.out.lt
        have HB2 : Hid (Below base w n1.w) := HB.out.trans (n1.below.mono (Nat.le_trans HBg.out (Nat.le_of_lt HA.out.lt)))
        have HS0 : Hid ((kept d (k + 1 + 1)).length = k + 1 ∧ kept d (k + 1 + 1) ++ (d.toList.map DotMath.up).drop (k + 1) = d.toList.map DotMath.up) := by
          show _ ∧ _
          rw [kept_no HKn.out, kept_all d (k + 1) (by rw [← HN.out]; exact hk) HK.out]
          refine ⟨?_, List.take_append_drop _ _⟩
          rw [List.length_take, dsize, ← HN.out]; omega
        clear p0' p1' q0' q1' HA HB HK HKn HSame HD HK1
        generalize n1.w = u2 at *
        clear hne n1
        generalize hm0 : k + 1 = m0 at *
        clear hki' hkc' hki2 hkc2 hm0 hk
        obtain ⟨L2, hL2⟩ : ∃ L2, L2 = n - m0 := ⟨_, rfl⟩
        obtain ⟨c2, hc2⟩ : ∃ c2, c2 = cap - m0 := ⟨_, rfl⟩
        have hcut : ∀ w', (Instr.sliceAt 25 (.slice (some ⟨g, 0, none⟩) n cap) (some (.int .i64 (m0 : Int))) none none).run Try.prog w' = .ok (.slice (some ⟨g, m0 * 2, none⟩) L2 c2) w' := fun w' => by
          have := cutD_from (b := g) (off := 0) (L := n) (cap := cap) (p := m0) (by omega) hc w'
          rw [if_neg (by omega), Nat.zero_add, ← hL2, ← hc2] at this
          exact this
        have HGet : Hid (∀ A i, A.length ≤ i → i < n → (A ++ (d.toList.map DotMath.up).drop A.length)[i]?.getD DotMath.zero = DotMath.up d[i]!) := fun A i h1 h2 => kept_get d A i h1 (by rw [← HN.out]; exact h2)
        have HLn : Hid (∀ A, A.length ≤ n → (A ++ (d.toList.map DotMath.up).drop A.length).length = n) := fun A h => by rw [kept_len d A (by rw [← HN.out]; exact h), ← HN.out]
        have HDr : Hid (∀ i, i < n → ∃ x, (d.toList.map DotMath.up).drop i = x :: (d.toList.map DotMath.up).drop (i + 1)) := fun i hi => ⟨_, List.drop_eq_getElem_cons (by rw [dsize, ← HN.out]; exact hi)⟩
        have HYes : Hid (∀ i x y, x = DotMath.up d[i + 1]! → y = DotMath.up d[i]! → x ≠ y → kept d (i + 1 + 1) = kept d (i + 1) ++ [x]) := fun i x y hx hy hxy => by rw [kept_yes (keeps_pos (fun e => hxy (by rw [hx, hy, e]; rfl))), hx]
        have HNo : Hid (∀ i x y, x = DotMath.up d[i + 1]! → y = DotMath.up d[i]! → x = y → kept d (i + 1 + 1) = kept d (i + 1)) := fun i x y hx hy hxy => kept_no (keeps_neg (by omega) (DotMath.up_inj (by rw [← hx, hxy, hy]; rfl)))
        have HTl : Hid (∀ A : List Dt, A.length ≤ n → (flatD (A ++ (d.toList.map DotMath.up).drop A.length) ++ rest).length = cap * 2) := fun A h => by
          rw [List.length_append, flatD_len, HLn.out A h]
          have := HLen.out
          rw [List.length_append, flatD_len, dsize, ← HN.out] at this
          exact this
        have HS1 : Hid ((kept d (m0 + 0 + 1)).length = m0) := HS0.out.1
        have HA3 : Hid (Arr u2 g 23 (flatD (kept d (m0 + 0 + 1) ++ (d.toList.map DotMath.up).drop (kept d (m0 + 0 + 1)).length) ++ rest)) := by
          rw [HS1.out]
          show Arr u2 g _ (flatD (kept d (m0 + 1) ++ _) ++ rest)
          rw [HS0.out.2]; exact HA2.out
        generalize d.toList.map DotMath.up = ds at *
        have HL2 : Hid (L2 = n - m0) := hL2
        have HC2 : Hid (c2 = cap - m0) := hc2
        have hL2p : 1 ≤ L2 := by omega
        clear HA2 HS0 HLen hL2 hc2
        go_upto_region 7 with (fail)

        go_wp2
        go_loopw [3, 5] (fun i j wr => ∃ q : Nat, q + 1 ≤ L2 ∧ i = .int .i64 (((kept d (m0 + q + 1)).length : Nat) : Int) ∧ j = .int .i64 ((q + 1 : Nat) : Int) ∧ (kept d (m0 + q + 1)).length ≤ m0 + q ∧ Arr wr g 23 (flatD (kept d (m0 + q + 1) ++ ds.drop (kept d (m0 + q + 1)).length) ++ rest) ∧ Below base w wr) (fun _ j _ => L2 - (intOf j).toNat)
        case atStart => exact ⟨0, by omega, by rw [HS1.out], rfl, by rw [HS1.out]; omega, HA3.out, HB2.out⟩
        case round =>
          obtain ⟨q, hq, rfl, rfl, hlt, hAr, hB⟩ := hrel
          clear HA3 HB2
          have HA : Hid (Arr wr g 23 (flatD (kept d (m0 + q + 1) ++ ds.drop (kept d (m0 + q + 1)).length) ++ rest)) := hAr
          have HB : Hid (Below base w wr) := hB
          clear hAr hB
          by_cases hqn : q + 1 < L2
          · have hnq : m0 + q + 1 < n := by have := HL2.out; omega
            have hqi : ((q + 1 : Nat) : Int) < (L2 : Int) := by omega
            have hqc : ((q + 1 : Nat) : Int) < (c2 : Int) := by have := HL2.out; have := HC2.out; omega
            have hqi' : (q : Int) + 1 < (L2 : Int) := by omega
            have hqc' : (q : Int) + 1 < (c2 : Int) := by omega
            have hqi2 : (q : Int) < (L2 : Int) := by omega
            have hqc2 : (q : Int) < (c2 : Int) := by omega
            obtain ⟨p0, p1⟩ := DRow.cells (drow_blk HA.out) (i := m0 + q + 1) (by rw [HLn.out _ (by omega)]; exact hnq)
            obtain ⟨q0, q1⟩ := DRow.cells (drow_blk HA.out) (i := m0 + q) (by rw [HLn.out _ (by omega)]; omega)
            rw [HGet.out _ (m0 + q + 1) (by omega) hnq, Nat.zero_add, show (m0 + q + 1) * 2 = m0 * 2 + (q + 1) * 2 by omega] at p0 p1
            rw [HGet.out _ (m0 + q) (by omega) (by omega), Nat.zero_add, show (m0 + q) * 2 = m0 * 2 + q * 2 by omega] at q0 q1
            obtain ⟨x, hx⟩ : ∃ x, x = DotMath.up d[m0 + q + 1]! := ⟨_, rfl⟩
            obtain ⟨y, hy⟩ : ∃ y, y = DotMath.up d[m0 + q]! := ⟨_, rfl⟩
            have HY2 := HYes.out (m0 + q) x y hx hy
            have HN2 := HNo.out (m0 + q) x y hx hy
            rw [← hx] at p0 p1
            rw [← hy] at q0 q1
            clear hx hy
            have hkc3 : (((kept d (m0 + q + 1)).length : Nat) : Int) < (n : Int) := by omega
            have hkc4 : (((kept d (m0 + q + 1)).length : Nat) : Int) < (cap : Int) := by omega
            obtain ⟨x0, hx0⟩ := HDr.out (kept d (m0 + q + 1)).length (by omega)
            have HFl : Hid (∀ u : Dt, (flatD (kept d (m0 + q + 1) ++ ds.drop (kept d (m0 + q + 1)).length) ++ rest).take ((kept d (m0 + q + 1)).length * 2) ++ dtL u ++ (flatD (kept d (m0 + q + 1) ++ ds.drop (kept d (m0 + q + 1)).length) ++ rest).drop ((kept d (m0 + q + 1)).length * 2 + (dtL u).length) = flatD ((kept d (m0 + q + 1) ++ [u]) ++ ds.drop (kept d (m0 + q + 1) ++ [u]).length) ++ rest) := fun u => by
              rw [hx0, flat_set]; simp
            have HFt : Hid ((kept d (m0 + q + 1)).length * 2 + 2 ≤ (flatD (kept d (m0 + q + 1) ++ ds.drop (kept d (m0 + q + 1)).length) ++ rest).length) := by
              show _ ≤ _
              rw [HTl.out _ (by omega)]; omega
            clear hx0 x0
            have hne : Nonempty (Grown1 wr) := ⟨⟨wr, Below.refl _ _⟩⟩
            have p0' := fun u : Grown1 wr => grown1_cell p0 u
            have p1' := fun u : Grown1 wr => grown1_cell p1 u
            have q0' := fun u : Grown1 wr => grown1_cell q0 u
            have q1' := fun u : Grown1 wr => grown1_cell q1 u
            clear p0 p1 q0 q1
            by_cases hxy : x = y
            · have HKn : Hid (kept d (m0 + (q + 1) + 1) = kept d (m0 + q + 1)) := HN2 hxy
              clear HY2 HN2 HFl HFt
              subst hxy
              go_upto_region 11 with (fail)
              (try simp only [Act.put])
              refine wp_region_grow (by kernel_rfl) (by kernel_rfl) ?_
              repeat (go_big_quiet_step (fail))
              refine wpQuiet_nil ?_
              intro _ hw'
              obtain ⟨n1, hw''⟩ := hw'
              subst hw''
              have HA2 : Hid (Arr n1.w g 23 (flatD (kept d (m0 + (q + 1) + 1) ++ ds.drop (kept d (m0 + (q + 1) + 1)).length) ++ rest)) := by
                rw [HKn.out]; exact HA.out.later n1.below HA.out.lt
              have HB2 : Hid (Below base w n1.w) := HB.out.trans (n1.below.mono (Nat.le_trans HBg.out (Nat.le_of_lt HA.out.lt)))
              clear p0' p1' q0' q1' HA HB
              generalize n1.w = u3 at *
              clear hne n1
              rw [← HKn.out] at hlt hkc3 hkc4 ⊢
              go_wp2
              go_roundw
              case rel => exact ⟨q + 1, by omega, by go_num, by go_num, by omega, HA2.out, HB2.out⟩
              case measure => simp [intOf]; omega
            · have HKn : Hid (kept d (m0 + (q + 1) + 1) = kept d (m0 + q + 1) ++ [x]) := HY2 hxy
              have HKl : Hid ((kept d (m0 + (q + 1) + 1)).length = (kept d (m0 + q + 1)).length + 1) := by
                show _ = _; rw [HKn.out]; simp
              clear HY2 HN2
              have HNe : Hid _ := dne_cases hxy
              clear hxy
              go_upto_region 11 with (fail)
              rcases HNe.out with e1 | ⟨e1, e2⟩
              all_goals
                (try simp only [Act.put])
                refine wp_region_grow (by kernel_rfl) (by kernel_rfl) ?_
                repeat (go_big_quiet_step (fail))
                refine wpQuiet_nil ?_
                intro _ hw'
                obtain ⟨n1, hw''⟩ := hw'
                subst hw''
                have HA2 : Hid (Arr n1.w g 23 (flatD (kept d (m0 + q + 1) ++ ds.drop (kept d (m0 + q + 1)).length) ++ rest)) := HA.out.later n1.below HA.out.lt
                have HB2 : Hid (Below base w n1.w) := HB.out.trans (n1.below.mono (Nat.le_trans HBg.out (Nat.le_of_lt HA.out.lt)))
                have p0 := p0' n1
                have p1 := p1' n1
                clear p0' p1' q0' q1' HA HB
                generalize n1.w = u3 at *
                clear hne n1
                generalize kept d (m0 + q + 1) = A at *
                generalize A.length = kk at *
                go_wp2_with (refine wpList_store_part rfl 23 (.tmp 51) (.tmp 50) rfl g (kk * 2) 23 (flatD (A ++ ds.drop kk) ++ rest) (dtL x) rfl rfl HA2.out sizeDt HFt.out (dtL_one x) ?_; rw [HFl.out x]; have HA4 : Hid (Arr (u3.setRow g (flatD ((A ++ [x]) ++ ds.drop (A ++ [x]).length) ++ rest).toArray) g 23 (flatD ((A ++ [x]) ++ ds.drop (A ++ [x]).length) ++ rest)) := Arr.row HA2.out; have HB4 : Hid (Below base w (u3.setRow g (flatD ((A ++ [x]) ++ ds.drop (A ++ [x]).length) ++ rest).toArray)) := below_setRow HB2.out HBg.out _; generalize u3.setRow g (flatD ((A ++ [x]) ++ ds.drop (A ++ [x]).length) ++ rest).toArray = u4 at *)
                go_roundw
                case rel => exact ⟨q + 1, by omega, by rw [HKl.out]; go_num, by go_num, by have := HKl.out; omega, by rw [HKn.out]; exact HA4.out, HB4.out⟩
                case measure => simp [intOf]; omega
          · have HQ : Hid (m0 + q + 1 = n) := by show _ = _; have := HL2.out; omega
            have hdq : decide (((q + 1 : Nat) : Int) < (L2 : Int)) = false := by simp; omega
            have hqe : q + 1 = L2 := by omega
            rw [HQ.out] at HA hlt ⊢
            have HTn := HTl.out (kept d n) (by have := HQ.out; omega)
            have HTw : Hid ((flatD (kept d n ++ ds.drop (kept d n).length) ++ rest).take ((kept d n).length * 2) = flatD (kept d n)) := by
              show _ = _
              rw [flatD_append, List.append_assoc, ← flatD_len (kept d n), List.take_left]
            have hnk : (kept d n).length < n := by have := HQ.out; omega
            have hcut2 : ∀ w', (Instr.sliceAt 25 (.slice (some ⟨g, 0, none⟩) n cap) (some (.int .i64 (((kept d n).length : Nat) : Int))) none none).run Try.prog w' = .ok (.slice (some ⟨g, (kept d n).length * 2, none⟩) (n - (kept d n).length) (cap - (kept d n).length)) w' := fun w' => by
              have := cutD_from (b := g) (off := 0) (L := n) (cap := cap) (p := (kept d n).length) (by omega) hc w'
              rw [if_neg (by omega), Nat.zero_add] at this
              exact this
            have hcut3 : ∀ w', (Instr.sliceAt 25 (.slice (some ⟨g, 0, none⟩) n cap) none (some (.int .i64 (((kept d n).length : Nat) : Int))) none).run Try.prog w' = .ok (.slice (some ⟨g, 0, none⟩) (kept d n).length cap) w' := fun w' => cutD_head (by omega) hc w'
            obtain ⟨l', hcl, hl1, hl2⟩ := run_clear_dots wr g ((kept d n).length * 2) (n - (kept d n).length) (cap - (kept d n).length) _ HA.out (by omega) (by rw [HTn]; omega)
            have HO : Hid (DOwn (wr.setRow g l'.toArray) base (.slice (some ⟨g, 0, none⟩) (kept d n).length cap) (kept d n)) := by
              have e : l' = flatD (kept d n) ++ l'.drop ((kept d n).length * 2) := by
                rw [← HTw.out, ← hl2, List.take_append_drop]
              have hA5 : Arr (wr.setRow g l'.toArray) g 23 l' := Arr.row HA.out
              rw [e] at hA5 ⊢
              refine blk_own HBg.out hA5 ?_ (by omega) HM.out
              rw [← e, hl1, HTn]
            have HB5 : Hid (Below base w (wr.setRow g l'.toArray)) := below_setRow HB.out HBg.out _
            clear HA HB HTn HTw hl1 hl2 HYes HNo HGet HLn HDr HTl HS1 HQ hlt
            generalize hkk : (kept d n).length = kk at *
            generalize hKA : kept d n = A at *
            have HKA : Hid (kept d n = A) := hKA
            clear hKA
            generalize wr.setRow g l'.toArray = u4 at *
            generalize n - kk = n4 at *
            generalize cap - kk = c4 at *
            clear hkk hc
            go_wp2
            go_ret
            exact ⟨_, rfl, by rw [HKA.out]; exact HO.out, HB5.out⟩
      · have HKn : Hid (keeps d (k + 1) = true) := HX2 hxy
        clear HX2 HY2
        rcases dne_cases hxy with e1 | ⟨e1, e2⟩
        all_goals
          clear hxy
          go_upto_region 6 with (fail)
          (try simp only [Act.put])
          refine wp_region_grow (by kernel_rfl) (by kernel_rfl) ?_
          repeat (go_big_quiet_step (fail))
          refine wpQuiet_nil ?_
          intro _ hw'
          obtain ⟨n1, hw''⟩ := hw'
          subst hw''
          have HA2 : Hid (Arr n1.w g 23 (flatD (d.toList.map DotMath.up) ++ rest)) := HA.out.later n1.below HA.out.lt
          have HB2 : Hid (Below base w n1.w) := HB.out.trans (n1.below.mono (Nat.le_trans HBg.out (Nat.le_of_lt HA.out.lt)))
          have HK2 : Hid (∀ j, j < k + 1 + 1 → keeps d j = true) := fun j hj => by
            by_cases e : j = k + 1
            · rw [e]; exact HKn.out
            · exact HK.out j (by omega)
          clear p0' p1' q0' q1' HA HB HK HKn
          generalize n1.w = u2 at *
          clear hne n1
          go_wp2
          go_roundw
          case rel => exact ⟨k + 1, by omega, by go_num, HK2, HA2.out, HB2.out⟩
          case measure => simp [intOf]; omega
    · have hkk : n = k + 1 := by omega
      have hdk : decide (((k + 1 : Nat) : Int) < (n : Int)) = false := by simp; omega
      have HK2 : Hid (∀ j, j < n → keeps d j = true) := fun j hj => HK.out j (by omega)
      subst hkk
      go_wp2
      go_ret
      exact ⟨_, rfl, HSame.out HK2.out _ HA.out, HB.out⟩
end Go.Proofs.Ytehaeepihjookaa

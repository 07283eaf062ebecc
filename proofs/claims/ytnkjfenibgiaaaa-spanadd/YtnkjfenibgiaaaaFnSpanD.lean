/-
  Walk of newsreelref1.SpanAdd.
-/
import Derived.Test.YtnkjfenibgiaaaaFnSpanA
import Derived.Test.YtnkjfenibgiaaaaRngStep
import Derived.Laws.CopyRow
namespace Go.Proofs.Ytnkjfenibgiaaaa
open Go.RowKit NumMath
open SpanMath (Rg)
set_option maxRecDepth 100000
set_option linter.unusedVariables false
set_option linter.unusedSimpArgs false

/-- One cell of a block that is known whole. -/
theorem run_store_cell {w : World} (ty : TypeId) (g o t : Nat) (l : List Value) (v : Value) (hv : v.cells = #[v]) (h : Arr w g t l)
    (hi : (Try.prog.info? ty).map (·.size) = some 1) (hfit : o < l.length) (h1 : v.oneCell' = true) : (storeVar ty ⟨g, o, none⟩ v).run Try.prog w = .ok () (w.setRow g (l.set o v).toArray) := by
  have hst := run_storeCells_at (P := Try.prog) g o t [v] 0 l.toArray w h (by simp; omega) (by simpa using h1)
  have hl : l.take o ++ [v] ++ l.drop (o + 1) = l.set o v := by
    rw [List.set_eq_take_append_cons_drop, if_pos hfit, List.append_assoc]; rfl
  cases hq : Try.prog.info? ty with
  | none => simp [hq] at hi
  | some i =>
    have hs : i.size = 1 := by simp [hq] at hi; omega
    simp only [Nat.add_zero] at hst
    rw [show o + [v].length = o + 1 from rfl, hl] at hst
    simp [storeVar, sizeOf, typeInfo, hq, hv, hs, hst]
theorem wp_store_cell {op : Oper} {a : Act} {w : World} {K : Act → World → Prop} {Q : Exit → Act → World → Prop} (ty : TypeId) (x y : Operand) (ho : op.op = .store ty x y)
    (g o t : Nat) (l : List Value) (v : Value) (hx : a.eval x = .pointer (some ⟨g, o, none⟩)) (hy : a.eval y = v) (hv : v.cells = #[v]) (h : Arr w g t l)
    (hi : (Try.prog.info? ty).map (·.size) = some 1) (hfit : o < l.length) (h1 : v.oneCell' = true)
    (hn : K (a.put op.dst undef) (w.setRow g (l.set o v).toArray)) : Oper.wp Try.prog op a w K Q := by
  unfold Oper.wp execOp
  simp only [ho, hx, hy, Instr.storeAt, Instr.sureAddr, Sem.run_bind, Sem.run_pure, Result.andThen_ok, run_store_cell ty g o t l v hv h hi hfit h1]
  exact hn
theorem size64 : (Try.prog.info? 2).map (·.size) = some 1 := by kernel_rfl
theorem GOwn.row_other {w : World} {base g : Nat} {v : Value} {ds : List Rg} (h : GOwn w base v ds) (cs : Array Value) (hg : g < base) : GOwn (w.setRow g cs) base v ds := by
  refine ⟨h.own.1, ?_⟩
  rcases h.own.2 with h2 | ⟨g', cap, cur, h2, h3, h4, h5⟩
  · exact .inl h2
  · refine .inr ⟨g', cap, cur, h2, h3, ?_, h5⟩
    rw [setRow_other w g g' cs (by omega)]; exact h4
theorem rg_one (r : Rg) (w : World) (hf : SpanMath.Fit r) : Calls Try.prog 11 #[.slice (some ⟨w.heap.size, 0, none⟩) 1 1] (w.alloc (.cells #[.int .i64 r.f, .int .i64 r.t] 24)) fun e w' => e = .returned (.bool (SpanMath.ok r)) ∧ Below w.heap.size w w' := by
  have hb : Below w.heap.size w (w.alloc (.cells #[.int .i64 r.f, .int .i64 r.t] 24)) := (Below.refl _ _).alloc (Nat.le_refl _) _
  refine (refSpanRight_any (some ⟨w.heap.size, 0, none⟩) [r] 1 _ (lit_rngs w [r] rfl) (by simp) (by decide) (by simpa using hf)).mono ?_
  rintro e w' ⟨rfl, hbl⟩
  rw [SpanMath.right_one]
  exact ⟨rfl, hb.trans (hbl.mono hb.size)⟩

set_option maxHeartbeats 32000000 in
theorem refSpanAdd_any (a : Option Addr) (ds : List Rg) (cap : Nat) (r : Rg) (w : World) (hr : GRow w a ds) (hc : ds.length ≤ cap) (hm : cap ≤ maxLen) (hnil : a = none → cap = 0) (hf : ∀ r ∈ ds, SpanMath.Fit r) (hfr : SpanMath.Fit r) (hlim : ds.length ≤ 4000000000000) :
    Calls Try.prog 33 #[.slice a ds.length cap, rgV r] w fun e w' => ∃ v, e = .returned v ∧ GOwn w' w.heap.size v (SpanMath.add ds r) ∧ Below w.heap.size w w' := by
  have HRi : Hid (∀ w', Below w.heap.size w w' → _) := fun w' (hB : Below w.heap.size w w') => refSpanRight_any a ds cap w' (hr.later hB) hc hm hf
  have HR1 : Hid (∀ w, _) := fun w => rg_one r w hfr
  have HA0 : Hid (RgAt (w.alloc (.cells #[.int .i64 r.f, .int .i64 r.t] 24)) w.heap.size r) := RgAt.new w r rfl
  have HB0 : Hid (Below w.heap.size w (w.alloc (.cells #[.int .i64 r.f, .int .i64 r.t] 24))) := (Below.refl _ _).alloc (Nat.le_refl _) _
  have HS0 : Hid (w.heap.size + 1 ≤ (w.alloc (.cells #[.int .i64 r.f, .int .i64 r.t] 24)).heap.size) := by show _ ≤ _; simp
  unfold rgV
  cases hq : SpanMath.right ds with
  | false =>
    rw [hq] at HRi
    have HN : Hid (SpanMath.add ds r = []) := by show _ = _; unfold SpanMath.add; rw [if_neg (by rw [hq]; simp)]
    rw [HN.out]
    generalize ds.length = n at *
    clear hr hq hf hnil
    go_enter Try.func33, Try.ntmps33
    go_wp2_with fail
    refine Calls.mono (HRi.out _ HB0.out) ?_
    rintro e w1 ⟨rfl, hb1⟩
    have HB1 : Hid _ := HB0.out.trans (hb1.mono HB0.out.size)
    clear hb1
    go_wp2
    go_ret
    exact ⟨_, rfl, GOwn.nil _ _, HB1.out⟩
  | true =>
    rw [hq] at HRi
    cases hk : SpanMath.ok r with
    | false =>
      rw [hk] at HR1
      have HN : Hid (SpanMath.add ds r = []) := by show _ = _; unfold SpanMath.add; rw [if_neg (by rw [hk]; simp)]
      rw [HN.out]
      generalize ds.length = n at *
      clear hr hq hf hnil hk
      go_enter Try.func33, Try.ntmps33
      go_wp2_with fail
      refine Calls.mono (HRi.out _ HB0.out) ?_
      rintro e w1 ⟨rfl, hb1⟩
      have HA1 : Hid _ := HA0.out.later hb1 HA0.out.lt
      have HB1 : Hid _ := HB0.out.trans (hb1.mono HB0.out.size)
      clear hb1
      obtain ⟨r0, r1⟩ := HA1.out.cells
      go_wp2_with fail
      refine Calls.mono (HR1.out w1) ?_
      rintro e w2 ⟨rfl, hb2⟩
      have HB2 : Hid _ := HB1.out.trans (hb2.mono HB1.out.size)
      clear hb2
      go_wp2
      go_ret
      exact ⟨_, rfl, GOwn.nil _ _, HB2.out⟩
    | true =>
      rw [hk] at HR1
      have HIns : Hid (SpanMath.add ds r = SpanMath.ins r ds) := by show _ = _; unfold SpanMath.add; rw [if_pos ⟨hq, hk⟩]
      have HAt : Hid (∀ k, (∀ j, j < k → (ds[j]?.getD SpanMath.zero).t < r.f - 1) → k ≤ ds.length → (k = ds.length ∨ ¬ ((ds[k]?.getD SpanMath.zero).t < r.f - 1)) → SpanMath.ins r ds = ds.take k ++ SpanMath.mrg r (ds.drop k)) := fun k => SpanMath.ins_at r ds k
      have HDr : Hid (∀ i, i < ds.length → ds.drop i = ds[i]?.getD SpanMath.zero :: ds.drop (i + 1)) := fun i hi => by
        rw [List.drop_eq_getElem_cons hi]; simp [hi]
      have HDn : Hid (ds.drop ds.length = []) := List.drop_eq_nil_of_le (Nat.le_refl _)
      have HTk : Hid (∀ i, i < ds.length → ds.take (i + 1) = ds.take i ++ [ds[i]?.getD SpanMath.zero]) := fun i hi => by
        rw [List.take_succ_eq_append_getElem hi]; simp [hi]
      have HTl : Hid (∀ i, (ds.take i).length ≤ i) := fun i => by rw [List.length_take]; omega
      have HDl : Hid (∀ i, (ds.drop i).length = ds.length - i) := fun i => List.length_drop ..
      have hR := (SpanMath.right_iff ds).1 hq
      have HO : Hid (∀ k, k < ds.length → 1 ≤ (ds[k]?.getD SpanMath.zero).f ∧ (ds[k]?.getD SpanMath.zero).t ≤ 1099511627775 ∧ (ds[k]?.getD SpanMath.zero).f ≤ (ds[k]?.getD SpanMath.zero).t) := fun k hk => by
        rw [List.getElem?_eq_getElem hk]; exact SpanMath.ok_iff.1 (hR.1 _ (List.getElem_mem hk))
      have HC : Hid (∀ k, k < ds.length → ∀ w', Below w.heap.size w w' → ∃ b off, a = some ⟨b, off, none⟩ ∧ w'.cell? ⟨b, off + k * 2, none⟩ = some (.int .i64 (ds[k]?.getD SpanMath.zero).f) ∧ w'.cell? ⟨b, off + k * 2 + 1, none⟩ = some (.int .i64 (ds[k]?.getD SpanMath.zero).t)) := fun k hk w' hB => by
        obtain ⟨b, off, ha, _⟩ := (hr.later hB).at (by omega)
        subst ha
        exact ⟨b, off, rfl, GRow.cells (hr.later hB) hk⟩
      have HGr : Hid (∀ w', Below w.heap.size w w' → GRow w' a ds) := fun w' hB => hr.later hB
      have HNil : Hid (a = none → cap = 0) := hnil
      have HLn : Hid (ds.length = ds.length) := rfl
      have hokr := SpanMath.ok_iff.1 hk
      obtain ⟨n, hn⟩ : ∃ n, n = ds.length := ⟨_, rfl⟩
      have HN : Hid (n = ds.length) := hn
      rw [← hn] at hc HRi HAt HDr HDn HTk HDl HO HC hlim ⊢
      clear hr hq hf hnil hk hR hn HLn
      go_enter Try.func33, Try.ntmps33
      go_wp2_with fail
      refine Calls.mono (HRi.out _ HB0.out) ?_
      rintro e w1 ⟨rfl, hb1⟩
      have HA1 : Hid _ := HA0.out.later hb1 HA0.out.lt
      have HB1 : Hid _ := HB0.out.trans (hb1.mono HB0.out.size)
      have HS1 : Hid _ := Nat.le_trans HS0.out hb1.size
      clear hb1 HA0 HB0 HS0 HRi
      obtain ⟨r0, r1⟩ := HA1.out.cells
      go_wp2_with fail
      refine Calls.mono (HR1.out w1) ?_
      rintro e w2 ⟨rfl, hb2⟩
      have HA2 : Hid _ := HA1.out.later hb2 HA1.out.lt
      have HB2 : Hid (Below w.heap.size w w2) := HB1.out.trans (hb2.mono HB1.out.size)
      have HS2 : Hid _ := Nat.le_trans HS1.out hb2.size
      clear hb2 HA1 HB1 HS1 HR1 r0 r1
      have e1 : IntKind.i64.wrap (r.f - 1) = r.f - 1 := by rw [IntKind.wrap_i64]; omega
      go_wp2
      go_loopw [5, 6] (fun v i wr => ∃ k : Nat, k ≤ n ∧ i = .int .i64 k ∧ GOwn wr (w.heap.size + 1) v (ds.take k) ∧ RgAt wr w.heap.size r ∧ Hid (∀ j, j < k → (ds[j]?.getD SpanMath.zero).t < r.f - 1) ∧ Below w.heap.size w wr ∧ w.heap.size + 1 ≤ wr.heap.size) (fun _ i _ => n - (intOf i).toNat)
      case atStart => exact ⟨0, by omega, rfl, GOwn.nil _ _, HA2.out, fun j hj => by omega, HB2.out, HS2.out⟩
      case round =>
        obtain ⟨k, hk, rfl, hO, hA, HK, hB, hS⟩ := hrel
        clear HA2 HB2 HS2
        have HOw : Hid (GOwn wr (w.heap.size + 1) _ (ds.take k)) := hO
        have HA : Hid (RgAt wr w.heap.size r) := hA
        have HB : Hid (Below w.heap.size w wr) := hB
        have HS : Hid (w.heap.size + 1 ≤ wr.heap.size) := hS
        clear hO hA hB hS
        by_cases hkn : k < n
        · have hki : (k : Int) < (n : Int) := by omega
          have hkc : (k : Int) < (cap : Int) := by omega
          obtain ⟨b, off, rfl, p0, p1⟩ := HC.out k hkn wr HB.out
          obtain ⟨r0, r1⟩ := HA.out.cells
          have HTk2 : Hid _ := HTk.out k hkn
          have HAt2 : Hid _ := HAt.out k HK.out hk
          have HC2 : Hid (∀ w', Below w.heap.size w w' → w'.cell? ⟨b, off + k * 2, none⟩ = some (.int .i64 (ds[k]?.getD SpanMath.zero).f) ∧ w'.cell? ⟨b, off + k * 2 + 1, none⟩ = some (.int .i64 (ds[k]?.getD SpanMath.zero).t)) := fun w' hB => by
            obtain ⟨b', off', ha, h1⟩ := HC.out k hkn w' hB
            have ha' : b = b' ∧ off = off' := by simpa using ha
            obtain ⟨rfl, rfl⟩ := ha'
            exact h1
          have HKn : Hid ((ds[k]?.getD SpanMath.zero).t < r.f - 1 → ∀ j, j < k + 1 → (ds[j]?.getD SpanMath.zero).t < r.f - 1) := fun h j hj => by
            by_cases e : j = k
            · rw [e]; exact h
            · exact HK.out j (by omega)
          obtain ⟨d, hd⟩ : ∃ d, d = ds[k]?.getD SpanMath.zero := ⟨_, rfl⟩
          rw [← hd] at p0 p1 HTk2 HAt2 HKn
          simp only [← hd] at HC2
          clear hd
          have hne : Nonempty (Grown1 wr) := ⟨⟨wr, Below.refl _ _⟩⟩
          have p0' := fun u : Grown1 wr => grown1_cell p0 u
          have p1' := fun u : Grown1 wr => grown1_cell p1 u
          have r0' := fun u : Grown1 wr => grown1_cell r0 u
          have r1' := fun u : Grown1 wr => grown1_cell r1 u
          clear p0 p1 r0 r1
          by_cases hx : d.t < r.f - 1
          · have hxb : decide (d.t < r.f - 1) = true := decide_eq_true hx
            have HK2 : Hid _ := HKn.out hx
            go_upto_region 5 with (fail)
            (try simp only [Act.put])
            refine wp_region_grow (by kernel_rfl) (by kernel_rfl) ?_
            repeat (go_big_quiet_step (fail))
            refine wpQuiet_nil ?_
            intro _ hw'
            obtain ⟨n1, hw''⟩ := hw'
            subst hw''
            have HA7 : Hid (RgAt n1.w w.heap.size r) := HA.out.later n1.below HA.out.lt
            have HO7 : Hid _ := HOw.out.later n1.below
            have HB7 : Hid (Below w.heap.size w n1.w) := HB.out.trans (n1.below.mono HB.out.size)
            have HS7 : Hid (w.heap.size + 1 ≤ n1.w.heap.size) := Nat.le_trans HS.out n1.below.size
            clear p0' p1' r0' r1' HA HOw HB HS
            generalize n1.w = u7 at *
            clear hne n1
            clear HKn HAt2 hx hxb
            obtain ⟨p0, p1⟩ := HC2.out u7 HB7.out
            have hlit : GRow (u7.alloc (.cells (flatG [d]).toArray 24)) (some ⟨u7.heap.size, 0, none⟩) [d] := lit_rngs u7 [d] rfl
            have HLi : Hid _ := hlit
            have hO8 : GOwn (u7.alloc (.cells (flatG [d]).toArray 24)) (w.heap.size + 1) _ (ds.take k) := HO7.out.alloc _
            have HO8 : Hid _ := hO8
            have hb8 : Below u7.heap.size u7 (u7.alloc (.cells (flatG [d]).toArray 24)) := (Below.refl _ _).alloc (Nat.le_refl _) _
            have HA8 : Hid _ := HA7.out.later hb8 HA7.out.lt
            have HB8 : Hid _ := HB7.out.trans (hb8.mono HB7.out.size)
            have HS8 : Hid _ := Nat.le_trans HS7.out hb8.size
            have hlen := HTl.out k
            clear hlit hO8 hb8
            generalize ds.take k = tk at *
            go_wp2_with (at_builtin; refine wpList_app_rngs rfl _ _ rfl (w.heap.size + 1) _ tk rfl HO8.out (some ⟨u7.heap.size, 0, none⟩) 1 [d] 1 rfl rfl HLi.out (by simp) (Nat.le_refl _) (by simp; omega) HS8.out ?_; intro v4 w4 hown4 hgrow4)
            have hb9 : Below (w.heap.size + 1) (u7.alloc (.cells (flatG [d]).toArray 24)) w4 := (Below.refl _ _).grown hgrow4 HS8.out (fun q hq => (HO8.out.lt q hq).1)
            have HO9 : Hid (GOwn w4 (w.heap.size + 1) v4 (ds.take (k + 1))) := by rw [HTk2.out]; exact hown4
            have HA9 : Hid (RgAt w4 w.heap.size r) := HA8.out.later hb9 (Nat.lt_succ_self _)
            have HB9 : Hid (Below w.heap.size w w4) := HB8.out.trans (hb9.mono (Nat.le_succ _))
            have HS9 : Hid (w.heap.size + 1 ≤ w4.heap.size) := Nat.le_trans HS8.out hgrow4.size
            clear hown4 hgrow4 HO8 HB8 HLi p0 p1 hb9 HA8 HS8 HO7 HA7 HB7 HS7 hlen
            go_wp2
            go_roundw
            case rel => exact ⟨k + 1, by omega, by go_num, HO9.out, HA9.out, HK2, HB9.out, HS9.out⟩
            case measure => simp [intOf]; omega
          · have hxb : decide (d.t < r.f - 1) = false := decide_eq_false hx
            have HI : Hid _ := HAt2.out (.inr (by omega))
            go_upto_region 5 with (fail)
            (try simp only [Act.put])
            refine wp_region_grow (by kernel_rfl) (by kernel_rfl) ?_
            repeat (go_big_quiet_step (fail))
            refine wpQuiet_nil ?_
            intro _ hw'
            obtain ⟨n1, hw''⟩ := hw'
            subst hw''
            have HA7 : Hid (RgAt n1.w w.heap.size r) := HA.out.later n1.below HA.out.lt
            have HO7 : Hid _ := HOw.out.later n1.below
            have HB7 : Hid (Below w.heap.size w n1.w) := HB.out.trans (n1.below.mono HB.out.size)
            have HS7 : Hid (w.heap.size + 1 ≤ n1.w.heap.size) := Nat.le_trans HS.out n1.below.size
            clear p0' p1' r0' r1' HA HOw HB HS
            generalize n1.w = u7 at *
            clear hne n1
            clear HKn HAt2 hx hxb HC2 HTk2
            have e1' := e1
            clear e1 e1'
            obtain ⟨M, hM⟩ : ∃ M, M = SpanMath.mrg r (ds.drop k) := ⟨_, rfl⟩
            rw [← hM] at HI
            have HM0 : Hid (SpanMath.mrg r (ds.drop k) = M) := hM.symm
            clear hM
            go_wp2_with fail
            go_loopw [6] (fun i wr => ∃ (k2 : Nat) (r2 : Rg), k ≤ k2 ∧ k2 ≤ n ∧ i = .int .i64 k2 ∧ GOwn wr (w.heap.size + 1) _ (ds.take k) ∧ RgAt wr w.heap.size r2 ∧ Hid (SpanMath.mrg r2 (ds.drop k2) = M) ∧ (1 ≤ r2.f ∧ r2.t ≤ 1099511627775 ∧ r2.f ≤ r2.t) ∧ Below w.heap.size w wr ∧ w.heap.size + 1 ≤ wr.heap.size) (fun i _ => n - (intOf i).toNat)
            case atStart => exact ⟨k, r, Nat.le_refl _, hk, rfl, HO7.out, HA7.out, HM0, hokr, HB7.out, HS7.out⟩
            case round =>
              obtain ⟨k2, r2, hkk2, hk2n, rfl, hO, hA, HM, hok2, hB, hS⟩ := hrel
              clear HA7 HB7 HS7 HO7 HM0
              have HOw : Hid (GOwn wr (w.heap.size + 1) _ (ds.take k)) := hO
              have HA : Hid (RgAt wr w.heap.size r2) := hA
              have HB : Hid (Below w.heap.size w wr) := hB
              have HS : Hid (w.heap.size + 1 ≤ wr.heap.size) := hS
              clear hO hA hB hS
              have e2 : IntKind.i64.wrap (r2.t + 1) = r2.t + 1 := by rw [IntKind.wrap_i64]; omega
              have hne : Nonempty (Grown1 wr) := ⟨⟨wr, Below.refl _ _⟩⟩
              obtain ⟨r0, r1⟩ := HA.out.cells
              have r0' := fun u : Grown1 wr => grown1_cell r0 u
              have r1' := fun u : Grown1 wr => grown1_cell r1 u
              by_cases hk2 : k2 < n
              · have hki2 : (k2 : Int) < (n : Int) := by omega
                have hkc2 : (k2 : Int) < (cap : Int) := by omega
                obtain ⟨b', off', ha, p0, p1⟩ := HC.out k2 hk2 wr HB.out
                have ha' : b = b' ∧ off = off' := by simpa using ha
                obtain ⟨rfl, rfl⟩ := ha'
                clear ha
                have HC2 : Hid (∀ w', Below w.heap.size w w' → w'.cell? ⟨b, off + k2 * 2, none⟩ = some (.int .i64 (ds[k2]?.getD SpanMath.zero).f) ∧ w'.cell? ⟨b, off + k2 * 2 + 1, none⟩ = some (.int .i64 (ds[k2]?.getD SpanMath.zero).t)) := fun w' hB => by
                  obtain ⟨b', off', ha, h1⟩ := HC.out k2 hk2 w' hB
                  have ha' : b = b' ∧ off = off' := by simpa using ha
                  obtain ⟨rfl, rfl⟩ := ha'
                  exact h1
                have HD2 : Hid _ := HDr.out k2 hk2
                have hod := HO.out k2 hk2
                obtain ⟨d, hd⟩ : ∃ d, d = ds[k2]?.getD SpanMath.zero := ⟨_, rfl⟩
                rw [← hd] at p0 p1 HD2 hod
                simp only [← hd] at HC2
                clear hd
                have p0' := fun u : Grown1 wr => grown1_cell p0 u
                have p1' := fun u : Grown1 wr => grown1_cell p1 u
                clear p0 p1 r0 r1
                by_cases hx : d.f ≤ r2.t + 1
                · have hxb : decide (d.f ≤ r2.t + 1) = true := decide_eq_true hx
                  have HM2 : Hid (SpanMath.mrg ⟨min r2.f d.f, max r2.t d.t⟩ (ds.drop (k2 + 1)) = M) := by show _ = _; rw [← SpanMath.mrg_in hx, ← HD2.out]; exact HM.out
                  go_upto_region 8 with (fail)
                  (try simp only [Act.put])
                  refine wp_region_grow (by kernel_rfl) (by kernel_rfl) ?_
                  repeat (go_big_quiet_step (fail))
                  refine wpQuiet_nil ?_
                  intro _ hw'
                  obtain ⟨n1, hw''⟩ := hw'
                  subst hw''
                  have HA9 : Hid (RgAt n1.w w.heap.size r2) := HA.out.later n1.below HA.out.lt
                  have HO9 : Hid _ := HOw.out.later n1.below
                  have HB9 : Hid (Below w.heap.size w n1.w) := HB.out.trans (n1.below.mono HB.out.size)
                  have HS9 : Hid (w.heap.size + 1 ≤ n1.w.heap.size) := Nat.le_trans HS.out n1.below.size
                  clear p0' p1' r0' r1' HA HOw HB HS
                  generalize n1.w = u9 at *
                  clear hne n1
                  clear hx hxb e2
                  obtain ⟨p0, p1⟩ := HC2.out u9 HB9.out
                  go_upto_region 9 with (fail)
                  have HAd : Hid (RgAt u9.drew w.heap.size r2) := HA9.out.drew
                  have HOd : Hid (GOwn u9.drew (w.heap.size + 1) _ (ds.take k)) := ⟨HO9.out.own⟩
                  have HBd : Hid (Below w.heap.size w u9.drew) := HB9.out.drew
                  have HSd : Hid (w.heap.size + 1 ≤ u9.drew.heap.size) := HS9.out
                  clear HA9 HO9 HB9 HS9
                  refine wp_region_held_drew (S := fun w' => w'.cell? ⟨b, off + k2 * 2, none⟩ = some (.int .i64 d.f) ∧ w'.cell? ⟨b, off + k2 * 2 + 1, none⟩ = some (.int .i64 d.t)) (by kernel_rfl) ⟨p0, p1⟩ (fun hS => ?_)
                  clear p0 p1
                  generalize u9.drew = v0 at *
                  obtain ⟨r0, r1⟩ := HAd.out.cells
                  obtain ⟨mn, hmn⟩ : ∃ x : Int, x = min r2.f d.f := ⟨_, rfl⟩
                  obtain ⟨mx, hmx⟩ : ∃ x : Int, x = max r2.t d.t := ⟨_, rfl⟩
                  rw [← hmn, ← hmx] at HM2
                  have hb1 : 1 ≤ mn ∧ mx ≤ 1099511627775 ∧ mn ≤ mx := by omega
                  have hmn' : (if d.f < r2.f then d.f else r2.f) = mn := by rw [hmn]; split <;> omega
                  have hmx' : (if r2.t < d.t then d.t else r2.t) = mx := by rw [hmx]; split <;> omega
                  clear hmn hmx
                  refine wpAnyH_take (i := 0) (v := ?_) rfl (by kernel_rfl) (by kernel_rfl) (by kernel_rfl) (fun _ _ _ h => h) (Or.inl ⟨by rfl, ?_⟩) hS ?_
                  rotate_left 1
                  · intro w hSw; (try dsimp only at hSw); go_simp <;> with_reducible rfl
                  simp only [List.getElem_toArray, List.getElem_cons_zero, List.getElem_cons_succ, Act.put, List.setIfInBounds_toArray, List.set_cons_zero, List.set_cons_succ]
                  refine wpAnyH_take (i := 2) (v := ?_) rfl (by kernel_rfl) (by kernel_rfl) (by kernel_rfl) (fun _ _ _ h => h) (Or.inl ⟨by rfl, ?_⟩) hS ?_
                  rotate_left 1
                  · intro w hSw; (try dsimp only at hSw); go_simp <;> with_reducible rfl
                  simp only [List.getElem_toArray, List.getElem_cons_zero, List.getElem_cons_succ, Act.put, List.setIfInBounds_toArray, List.set_cons_zero, List.set_cons_succ]
                  refine wpAnyH_take (i := 3) (v := ?_) rfl (by kernel_rfl) (by kernel_rfl) (by kernel_rfl) (fun _ _ _ h => h) (Or.inl ⟨by rfl, ?_⟩) hS ?_
                  rotate_left 1
                  · intro w hSw; (try dsimp only at hSw); go_simp <;> with_reducible rfl
                  simp only [List.getElem_toArray, List.getElem_cons_zero, List.getElem_cons_succ, Act.put, List.setIfInBounds_toArray, List.set_cons_zero, List.set_cons_succ]
                  refine wpAnyH_take (i := 4) (v := ?_) rfl (by kernel_rfl) (by kernel_rfl) (by kernel_rfl) (fun _ _ _ h => h) (Or.inl ⟨by rfl, ?_⟩) hS ?_
                  rotate_left 1
                  · intro w hSw; (try dsimp only at hSw); go_simp <;> with_reducible rfl
                  simp only [List.getElem_toArray, List.getElem_cons_zero, List.getElem_cons_succ, Act.put, List.setIfInBounds_toArray, List.set_cons_zero, List.set_cons_succ]
                  refine wpAnyH_take (i := 5) (v := ?_) rfl (by kernel_rfl) (by kernel_rfl) (by kernel_rfl) (fun _ _ _ h => h) (Or.inl ⟨by rfl, ?_⟩) hS ?_
                  rotate_left 1
                  · intro w hSw; (try dsimp only at hSw); go_simp <;> with_reducible rfl
                  simp only [List.getElem_toArray, List.getElem_cons_zero, List.getElem_cons_succ, Act.put, List.setIfInBounds_toArray, List.set_cons_zero, List.set_cons_succ]
                  refine wpAnyH_take (i := 6) (v := ?_) rfl (by kernel_rfl) (by kernel_rfl) (by kernel_rfl) (fun _ _ _ h => h) (Or.inl ⟨by rfl, ?_⟩) hS ?_
                  rotate_left 1
                  · intro w hSw; (try dsimp only at hSw); go_simp <;> with_reducible rfl
                  simp only [List.getElem_toArray, List.getElem_cons_zero, List.getElem_cons_succ, Act.put, List.setIfInBounds_toArray, List.set_cons_zero, List.set_cons_succ]
                  refine wpAnyH_take (i := 8) (v := ?_) rfl (by kernel_rfl) (by kernel_rfl) (by kernel_rfl) (fun _ _ _ h => h) (Or.inl ⟨by rfl, ?_⟩) hS ?_
                  rotate_left 1
                  · intro w hSw; (try dsimp only at hSw); go_simp <;> with_reducible rfl
                  simp only [List.getElem_toArray, List.getElem_cons_zero, List.getElem_cons_succ, Act.put, List.setIfInBounds_toArray, List.set_cons_zero, List.set_cons_succ]
                  refine wpAnyH_take (i := 10) (v := ?_) rfl (by kernel_rfl) (by kernel_rfl) (by kernel_rfl) (fun _ _ _ h => h) (Or.inl ⟨by rfl, ?_⟩) hS ?_
                  rotate_left 1
                  · intro w hSw; (try dsimp only at hSw); go_simp <;> with_reducible rfl
                  simp only [List.getElem_toArray, List.getElem_cons_zero, List.getElem_cons_succ, Act.put, List.setIfInBounds_toArray, List.set_cons_zero, List.set_cons_succ]
                  refine wpAnyH_take (i := 11) (v := ?_) rfl (by kernel_rfl) (by kernel_rfl) (by kernel_rfl) (fun _ _ _ h => h) (Or.inl ⟨by rfl, ?_⟩) hS ?_
                  rotate_left 1
                  · intro w hSw; (try dsimp only at hSw); go_simp <;> with_reducible rfl
                  simp only [List.getElem_toArray, List.getElem_cons_zero, List.getElem_cons_succ, Act.put, List.setIfInBounds_toArray, List.set_cons_zero, List.set_cons_succ]
                  refine wpAnyH_take (i := 12) (v := ?_) rfl (by kernel_rfl) (by kernel_rfl) (by kernel_rfl) (fun _ _ _ h => h) (Or.inl ⟨by rfl, ?_⟩) hS ?_
                  rotate_left 1
                  · intro w hSw; (try dsimp only at hSw); go_simp <;> with_reducible rfl
                  simp only [List.getElem_toArray, List.getElem_cons_zero, List.getElem_cons_succ, Act.put, List.setIfInBounds_toArray, List.set_cons_zero, List.set_cons_succ]
                  refine wpAnyH_take (i := 13) (v := ?_) rfl (by kernel_rfl) (by kernel_rfl) (by kernel_rfl) (fun _ _ _ h => h) (Or.inl ⟨by rfl, ?_⟩) hS ?_
                  rotate_left 1
                  · intro w hSw; (try dsimp only at hSw); go_simp <;> with_reducible rfl
                  simp only [List.getElem_toArray, List.getElem_cons_zero, List.getElem_cons_succ, Act.put, List.setIfInBounds_toArray, List.set_cons_zero, List.set_cons_succ]
                  refine wpAnyH_take (i := 14) (v := ?_) rfl (by kernel_rfl) (by kernel_rfl) (by kernel_rfl) (fun _ _ _ h => h) (Or.inl ⟨by rfl, ?_⟩) hS ?_
                  rotate_left 1
                  · intro w hSw; (try dsimp only at hSw); go_simp <;> with_reducible rfl
                  simp only [List.getElem_toArray, List.getElem_cons_zero, List.getElem_cons_succ, Act.put, List.setIfInBounds_toArray, List.set_cons_zero, List.set_cons_succ]
                  refine wpAnyH_ready (rs := [1, 9]) (by kernel_rfl) (by simp) ?_
                  refine AllReadyH.cons rfl (fun K hK => ?_) (AllReadyH.cons rfl (fun K hK => ?_) AllReadyH.nil)
                  · go_simp
                    refine hK.out _ _ hS (fun hS => ?_)
                    clear hK K
                    refine wpAnyH_take (i := 7) (v := ?_) rfl (by kernel_rfl) (by kernel_rfl) (by kernel_rfl) (fun _ _ _ h => h) (Or.inl ⟨by rfl, ?_⟩) hS ?_
                    rotate_left 1
                    · intro w hSw; (try dsimp only at hSw); go_simp <;> with_reducible rfl
                    simp only [List.getElem_toArray, List.getElem_cons_zero, List.getElem_cons_succ, Act.put, List.setIfInBounds_toArray, List.set_cons_zero, List.set_cons_succ]
                    refine wpAnyH_ready (rs := [9]) (by kernel_rfl) (by simp) ?_
                    refine AllReadyH.cons rfl (fun K hK => ?_) AllReadyH.nil
                    go_simp
                    refine hK.out _ _ hS (fun hS => ?_)
                    clear hK K
                    refine wpAnyH_take (i := 15) (v := ?_) rfl (by kernel_rfl) (by kernel_rfl) (by kernel_rfl) (fun _ _ _ h => h) (Or.inl ⟨by rfl, ?_⟩) hS ?_
                    rotate_left 1
                    · intro w hSw; (try dsimp only at hSw); go_simp <;> with_reducible rfl
                    simp only [List.getElem_toArray, List.getElem_cons_zero, List.getElem_cons_succ, Act.put, List.setIfInBounds_toArray, List.set_cons_zero, List.set_cons_succ]
                    refine wpAnyH_take (i := 16) (v := ?_) rfl (by kernel_rfl) (by kernel_rfl) (by kernel_rfl) (fun _ _ _ h => h) (Or.inl ⟨by rfl, ?_⟩) hS ?_
                    rotate_left 1
                    · intro w hSw; (try dsimp only at hSw); go_simp <;> with_reducible rfl
                    simp only [List.getElem_toArray, List.getElem_cons_zero, List.getElem_cons_succ, Act.put, List.setIfInBounds_toArray, List.set_cons_zero, List.set_cons_succ]
                    refine wpAnyH_ready (rs := [17]) (by kernel_rfl) (by simp) ?_
                    refine AllReadyH.cons rfl (fun K hK => ?_) AllReadyH.nil
                    refine wp_store_cell 2 (.tmp 71) (.tmp 62) rfl w.heap.size 0 24 (rgL r2) (.int .i64 mn) rfl rfl rfl HAd.out.arr size64 (by simp [rgL]) rfl ?_
                    have HA4 : Hid (Arr (v0.setRow w.heap.size ((rgL r2).set 0 (.int .i64 mn)).toArray) w.heap.size 24 ((rgL r2).set 0 (.int .i64 mn))) := Arr.row HAd.out.arr
                    have HB4 : Hid (Below w.heap.size w (v0.setRow w.heap.size ((rgL r2).set 0 (.int .i64 mn)).toArray)) := below_setRow HBd.out (Nat.le_refl _) _
                    have HO4 : Hid (GOwn (v0.setRow w.heap.size ((rgL r2).set 0 (.int .i64 mn)).toArray) (w.heap.size + 1) _ (ds.take k)) := GOwn.row_other HOd.out _ (Nat.lt_succ_self _)
                    have HS4 : Hid (w.heap.size + 1 ≤ (v0.setRow w.heap.size ((rgL r2).set 0 (.int .i64 mn)).toArray).heap.size) := by show _ ≤ _; have := HSd.out; simpa [World.setRow] using this
                    refine hK.out _ _ (HC2.out _ HB4.out) (fun hS => ?_)
                    clear hK K HAd HBd HOd HSd r0 r1
                    generalize v0.setRow w.heap.size ((rgL r2).set 0 (.int .i64 mn)).toArray = v1 at *
                    refine wpAnyH_take (i := 18) (v := ?_) rfl (by kernel_rfl) (by kernel_rfl) (by kernel_rfl) (fun _ _ _ h => h) (Or.inl ⟨by rfl, ?_⟩) hS ?_
                    rotate_left 1
                    · intro w hSw; (try dsimp only at hSw); go_simp <;> with_reducible rfl
                    simp only [List.getElem_toArray, List.getElem_cons_zero, List.getElem_cons_succ, Act.put, List.setIfInBounds_toArray, List.set_cons_zero, List.set_cons_succ]
                    refine wpAnyH_ready (rs := [19]) (by kernel_rfl) (by simp) ?_
                    refine AllReadyH.cons rfl (fun K hK => ?_) AllReadyH.nil
                    refine wp_store_cell 2 (.tmp 72) (.tmp 70) rfl w.heap.size 1 24 ((rgL r2).set 0 (.int .i64 mn)) (.int .i64 mx) rfl rfl rfl HA4.out size64 (by simp [rgL]) rfl ?_
                    have HA5 : Hid (RgAt (v1.setRow w.heap.size (((rgL r2).set 0 (.int .i64 mn)).set 1 (.int .i64 mx)).toArray) w.heap.size ⟨mn, mx⟩) := ⟨Arr.row HA4.out⟩
                    have HB5 : Hid (Below w.heap.size w (v1.setRow w.heap.size (((rgL r2).set 0 (.int .i64 mn)).set 1 (.int .i64 mx)).toArray)) := below_setRow HB4.out (Nat.le_refl _) _
                    have HO5 : Hid (GOwn (v1.setRow w.heap.size (((rgL r2).set 0 (.int .i64 mn)).set 1 (.int .i64 mx)).toArray) (w.heap.size + 1) _ (ds.take k)) := GOwn.row_other HO4.out _ (Nat.lt_succ_self _)
                    have HS5 : Hid (w.heap.size + 1 ≤ (v1.setRow w.heap.size (((rgL r2).set 0 (.int .i64 mn)).set 1 (.int .i64 mx)).toArray).heap.size) := by show _ ≤ _; have := HS4.out; simpa [World.setRow] using this
                    refine hK.out _ _ (HC2.out _ HB5.out) (fun hS => ?_)
                    clear hK K HA4 HB4 HO4 HS4
                    generalize v1.setRow w.heap.size (((rgL r2).set 0 (.int .i64 mn)).set 1 (.int .i64 mx)).toArray = v2 at *
                    refine wpAnyH_done (by kernel_rfl) ?_ _
                    go_wp2
                    go_roundw
                    case rel => exact ⟨k2 + 1, ⟨mn, mx⟩, by omega, by omega, by go_num, HO5.out, HA5.out, HM2, hb1, HB5.out, HS5.out⟩
                    case measure => simp [intOf]; omega
                  · go_simp
                    refine hK.out _ _ hS (fun hS => ?_)
                    clear hK K
                    refine wpAnyH_take (i := 15) (v := ?_) rfl (by kernel_rfl) (by kernel_rfl) (by kernel_rfl) (fun _ _ _ h => h) (Or.inl ⟨by rfl, ?_⟩) hS ?_
                    rotate_left 1
                    · intro w hSw; (try dsimp only at hSw); go_simp <;> with_reducible rfl
                    simp only [List.getElem_toArray, List.getElem_cons_zero, List.getElem_cons_succ, Act.put, List.setIfInBounds_toArray, List.set_cons_zero, List.set_cons_succ]
                    refine wpAnyH_ready (rs := [1]) (by kernel_rfl) (by simp) ?_
                    refine AllReadyH.cons rfl (fun K hK => ?_) AllReadyH.nil
                    go_simp
                    refine hK.out _ _ hS (fun hS => ?_)
                    clear hK K
                    refine wpAnyH_take (i := 7) (v := ?_) rfl (by kernel_rfl) (by kernel_rfl) (by kernel_rfl) (fun _ _ _ h => h) (Or.inl ⟨by rfl, ?_⟩) hS ?_
                    rotate_left 1
                    · intro w hSw; (try dsimp only at hSw); go_simp <;> with_reducible rfl
                    simp only [List.getElem_toArray, List.getElem_cons_zero, List.getElem_cons_succ, Act.put, List.setIfInBounds_toArray, List.set_cons_zero, List.set_cons_succ]
                    refine wpAnyH_take (i := 16) (v := ?_) rfl (by kernel_rfl) (by kernel_rfl) (by kernel_rfl) (fun _ _ _ h => h) (Or.inl ⟨by rfl, ?_⟩) hS ?_
                    rotate_left 1
                    · intro w hSw; (try dsimp only at hSw); go_simp <;> with_reducible rfl
                    simp only [List.getElem_toArray, List.getElem_cons_zero, List.getElem_cons_succ, Act.put, List.setIfInBounds_toArray, List.set_cons_zero, List.set_cons_succ]
                    refine wpAnyH_ready (rs := [17]) (by kernel_rfl) (by simp) ?_
                    refine AllReadyH.cons rfl (fun K hK => ?_) AllReadyH.nil
                    refine wp_store_cell 2 (.tmp 71) (.tmp 62) rfl w.heap.size 0 24 (rgL r2) (.int .i64 mn) rfl rfl rfl HAd.out.arr size64 (by simp [rgL]) rfl ?_
                    have HA4 : Hid (Arr (v0.setRow w.heap.size ((rgL r2).set 0 (.int .i64 mn)).toArray) w.heap.size 24 ((rgL r2).set 0 (.int .i64 mn))) := Arr.row HAd.out.arr
                    have HB4 : Hid (Below w.heap.size w (v0.setRow w.heap.size ((rgL r2).set 0 (.int .i64 mn)).toArray)) := below_setRow HBd.out (Nat.le_refl _) _
                    have HO4 : Hid (GOwn (v0.setRow w.heap.size ((rgL r2).set 0 (.int .i64 mn)).toArray) (w.heap.size + 1) _ (ds.take k)) := GOwn.row_other HOd.out _ (Nat.lt_succ_self _)
                    have HS4 : Hid (w.heap.size + 1 ≤ (v0.setRow w.heap.size ((rgL r2).set 0 (.int .i64 mn)).toArray).heap.size) := by show _ ≤ _; have := HSd.out; simpa [World.setRow] using this
                    refine hK.out _ _ (HC2.out _ HB4.out) (fun hS => ?_)
                    clear hK K HAd HBd HOd HSd r0 r1
                    generalize v0.setRow w.heap.size ((rgL r2).set 0 (.int .i64 mn)).toArray = v1 at *
                    refine wpAnyH_take (i := 18) (v := ?_) rfl (by kernel_rfl) (by kernel_rfl) (by kernel_rfl) (fun _ _ _ h => h) (Or.inl ⟨by rfl, ?_⟩) hS ?_
                    rotate_left 1
                    · intro w hSw; (try dsimp only at hSw); go_simp <;> with_reducible rfl
                    simp only [List.getElem_toArray, List.getElem_cons_zero, List.getElem_cons_succ, Act.put, List.setIfInBounds_toArray, List.set_cons_zero, List.set_cons_succ]
                    refine wpAnyH_ready (rs := [19]) (by kernel_rfl) (by simp) ?_
                    refine AllReadyH.cons rfl (fun K hK => ?_) AllReadyH.nil
                    refine wp_store_cell 2 (.tmp 72) (.tmp 70) rfl w.heap.size 1 24 ((rgL r2).set 0 (.int .i64 mn)) (.int .i64 mx) rfl rfl rfl HA4.out size64 (by simp [rgL]) rfl ?_
                    have HA5 : Hid (RgAt (v1.setRow w.heap.size (((rgL r2).set 0 (.int .i64 mn)).set 1 (.int .i64 mx)).toArray) w.heap.size ⟨mn, mx⟩) := ⟨Arr.row HA4.out⟩
                    have HB5 : Hid (Below w.heap.size w (v1.setRow w.heap.size (((rgL r2).set 0 (.int .i64 mn)).set 1 (.int .i64 mx)).toArray)) := below_setRow HB4.out (Nat.le_refl _) _
                    have HO5 : Hid (GOwn (v1.setRow w.heap.size (((rgL r2).set 0 (.int .i64 mn)).set 1 (.int .i64 mx)).toArray) (w.heap.size + 1) _ (ds.take k)) := GOwn.row_other HO4.out _ (Nat.lt_succ_self _)
                    have HS5 : Hid (w.heap.size + 1 ≤ (v1.setRow w.heap.size (((rgL r2).set 0 (.int .i64 mn)).set 1 (.int .i64 mx)).toArray).heap.size) := by show _ ≤ _; have := HS4.out; simpa [World.setRow] using this
                    refine hK.out _ _ (HC2.out _ HB5.out) (fun hS => ?_)
                    clear hK K HA4 HB4 HO4 HS4
                    generalize v1.setRow w.heap.size (((rgL r2).set 0 (.int .i64 mn)).set 1 (.int .i64 mx)).toArray = v2 at *
                    refine wpAnyH_done (by kernel_rfl) ?_ _
                    go_wp2
                    go_roundw
                    case rel => exact ⟨k2 + 1, ⟨mn, mx⟩, by omega, by omega, by go_num, HO5.out, HA5.out, HM2, hb1, HB5.out, HS5.out⟩
                    case measure => simp [intOf]; omega
                · have hxb : decide (d.f ≤ r2.t + 1) = false := decide_eq_false hx
                  have HFi : Hid (SpanMath.mrg r2 (ds.drop k2) = r2 :: ds.drop k2) := by show _ = _; rw [HD2.out]; exact SpanMath.mrg_out hx
                  go_upto_region 8 with (fail)
                  (try simp only [Act.put])
                  refine wp_region_grow (by kernel_rfl) (by kernel_rfl) ?_
                  repeat (go_big_quiet_step (fail))
                  refine wpQuiet_nil ?_
                  intro _ hw'
                  obtain ⟨n1, hw''⟩ := hw'
                  subst hw''
                  have HA9 : Hid (RgAt n1.w w.heap.size r2) := HA.out.later n1.below HA.out.lt
                  have HO9 : Hid _ := HOw.out.later n1.below
                  have HB9 : Hid (Below w.heap.size w n1.w) := HB.out.trans (n1.below.mono HB.out.size)
                  have HS9 : Hid (w.heap.size + 1 ≤ n1.w.heap.size) := Nat.le_trans HS.out n1.below.size
                  clear p0' p1' r0' r1' HA HOw HB HS
                  generalize n1.w = u9 at *
                  clear hne n1
                  clear hx hxb e2

                  obtain ⟨at1, at2, _, hk2, _, hr2, _, hn2⟩ := cutsG_of (HGr.out w (Below.refl _ _)) HN.out hc HNil.out hk2n
                  have HRa : Hid (∀ w', Below w.heap.size w w' → GRow w' at2 (ds.drop k2)) := fun w' hB => GRow.later hr2 hB
                  have HN2 : Hid (at2 = none → cap - k2 = 0) := hn2
                  have HL2 : Hid (n - k2 = (ds.drop k2).length) := (HDl.out k2).symm
                  have HLk : Hid ((ds.take k).length ≤ k) := HTl.out k
                  clear hr2 hn2
                  obtain ⟨r0, r1⟩ := HA9.out.cells
                  go_upto_region 11 with (fail)
                  have HAd : Hid (RgAt u9.drew w.heap.size r2) := HA9.out.drew
                  have HOd : Hid (GOwn u9.drew (w.heap.size + 1) _ (ds.take k)) := ⟨HO9.out.own⟩
                  have HBd : Hid (Below w.heap.size w u9.drew) := HB9.out.drew
                  have HSd : Hid (w.heap.size + 1 ≤ u9.drew.heap.size) := HS9.out
                  clear HA9 HO9 HB9 HS9
                  refine wp_region_held_drew (S := fun w' => w'.cell? ⟨w.heap.size, 0, none⟩ = some (.int .i64 r2.f) ∧ w'.cell? ⟨w.heap.size, 1, none⟩ = some (.int .i64 r2.t)) (by kernel_rfl) ⟨r0, r1⟩ (fun hS => ?_)
                  clear r0 r1
                  generalize u9.drew = v0 at *
                  refine wpAnyH_take (i := 0) (v := ?_) rfl (by kernel_rfl) (by kernel_rfl) (by kernel_rfl) (fun _ _ _ h => h) (Or.inl ⟨by rfl, ?_⟩) hS ?_
                  rotate_left 1
                  · intro w hSw; (try dsimp only at hSw); go_simp <;> with_reducible rfl
                  simp only [List.getElem_toArray, List.getElem_cons_zero, List.getElem_cons_succ, Act.put, List.setIfInBounds_toArray, List.set_cons_zero, List.set_cons_succ]
                  refine wpAnyH_take (i := 1) (v := ?_) rfl (by kernel_rfl) (by kernel_rfl) (by kernel_rfl) (fun _ _ _ h => h) (Or.inl ⟨by rfl, ?_⟩) hS ?_
                  rotate_left 1
                  · intro w hSw; (try dsimp only at hSw); go_simp <;> with_reducible rfl
                  simp only [List.getElem_toArray, List.getElem_cons_zero, List.getElem_cons_succ, Act.put, List.setIfInBounds_toArray, List.set_cons_zero, List.set_cons_succ]
                  refine wpAnyH_take (i := 4) (v := ?_) rfl (by kernel_rfl) (by kernel_rfl) (by kernel_rfl) (fun _ _ _ h => h) (Or.inl ⟨by rfl, ?_⟩) hS ?_
                  rotate_left 1
                  · intro w hSw; (try dsimp only at hSw); go_simp <;> with_reducible rfl
                  simp only [List.getElem_toArray, List.getElem_cons_zero, List.getElem_cons_succ, Act.put, List.setIfInBounds_toArray, List.set_cons_zero, List.set_cons_succ]
                  refine wpAnyH_take (i := 5) (v := ?_) rfl (by kernel_rfl) (by kernel_rfl) (by kernel_rfl) (fun _ _ _ h => h) (Or.inl ⟨by rfl, ?_⟩) hS ?_
                  rotate_left 1
                  · intro w hSw; (try dsimp only at hSw); go_simp <;> with_reducible rfl
                  simp only [List.getElem_toArray, List.getElem_cons_zero, List.getElem_cons_succ, Act.put, List.setIfInBounds_toArray, List.set_cons_zero, List.set_cons_succ]
                  refine wpAnyH_take (i := 6) (v := ?_) rfl (by kernel_rfl) (by kernel_rfl) (by kernel_rfl) (fun _ _ _ h => h) (Or.inl ⟨by rfl, ?_⟩) hS ?_
                  rotate_left 1
                  · intro w hSw; (try dsimp only at hSw); go_simp <;> with_reducible rfl
                  simp only [List.getElem_toArray, List.getElem_cons_zero, List.getElem_cons_succ, Act.put, List.setIfInBounds_toArray, List.set_cons_zero, List.set_cons_succ]
                  refine wpAnyH_ready (rs := [2]) (by kernel_rfl) (by simp) ?_
                  refine AllReadyH.cons rfl (fun K hK => ?_) AllReadyH.nil
                  go_simp
                  have hbl : Below v0.heap.size v0 (v0.alloc (.cells #[.int .i64 r2.f, .int .i64 r2.t] 24)) := (Below.refl _ _).alloc (Nat.le_refl _) _
                  have HLi : Hid (GRow (v0.alloc (.cells #[.int .i64 r2.f, .int .i64 r2.t] 24)) (some ⟨v0.heap.size, 0, none⟩) [r2]) := lit_rngs v0 [r2] rfl
                  have HA3 : Hid _ := HAd.out.later hbl HAd.out.lt
                  have HO3 : Hid _ := HOd.out.later hbl
                  have HB3 : Hid _ := HBd.out.trans (hbl.mono HBd.out.size)
                  have HS3 : Hid _ := Nat.le_trans HSd.out hbl.size
                  refine hK.out _ _ HA3.out.cells (fun hS => ?_)
                  clear hK K hbl HAd HOd HBd HSd
                  generalize v0.alloc (.cells #[.int .i64 r2.f, .int .i64 r2.t] 24) = v1 at *
                  generalize v0.heap.size = gl at *
                  refine wpAnyH_ready (rs := [3]) (by kernel_rfl) (by simp) ?_
                  refine AllReadyH.cons rfl (fun K hK => ?_) AllReadyH.nil
                  refine wp_app_rngs _ _ rfl (w.heap.size + 1) _ (ds.take k) rfl HO3.out (some ⟨gl, 0, none⟩) 1 [r2] 1 rfl rfl HLi.out (by simp) (Nat.le_refl _) (by have := HLk.out; simp; omega) HS3.out ?_
                  intro v2 w4 hown4 hgrow4
                  have hb4 : Below (w.heap.size + 1) v1 w4 := (Below.refl _ _).grown hgrow4 HS3.out (fun q hq => (HO3.out.lt q hq).1)
                  have HA4 : Hid (RgAt w4 w.heap.size r2) := HA3.out.later hb4 (Nat.lt_succ_self _)
                  have HO4 : Hid (GOwn w4 (w.heap.size + 1) v2 (ds.take k ++ [r2])) := hown4
                  have HB4 : Hid (Below w.heap.size w w4) := HB3.out.trans (hb4.mono (Nat.le_succ _))
                  have HS4 : Hid (w.heap.size + 1 ≤ w4.heap.size) := Nat.le_trans HS3.out hgrow4.size
                  have HR4 : Hid (GRow w4 at2 (ds.drop k2)) := HRa.out _ HB4.out
                  refine hK.out _ _ HA4.out.cells (fun hS => ?_)
                  clear hK K hown4 hgrow4 hb4 HA3 HO3 HB3 HS3 HLi
                  refine wpAnyH_ready (rs := [7]) (by kernel_rfl) (by simp) ?_
                  refine AllReadyH.cons rfl (fun K hK => ?_) AllReadyH.nil
                  refine wp_app_rngs _ _ rfl (w.heap.size + 1) v2 (ds.take k ++ [r2]) rfl HO4.out at2 (cap - k2) (ds.drop k2) (n - k2) HL2.out rfl HR4.out HN2.out (by omega) (by have := HLk.out; have := HL2.out; simp only [List.length_append, List.length_singleton]; omega) HS4.out ?_
                  intro v5 w5 hown5 hgrow5
                  have hb5 : Below (w.heap.size + 1) w4 w5 := (Below.refl _ _).grown hgrow5 HS4.out (fun q hq => (HO4.out.lt q hq).1)
                  have HA5 : Hid (RgAt w5 w.heap.size r2) := HA4.out.later hb5 (Nat.lt_succ_self _)
                  have HO5 : Hid (GOwn w5 (w.heap.size + 1) v5 ((ds.take k ++ [r2]) ++ ds.drop k2)) := hown5
                  have HB5 : Hid (Below w.heap.size w w5) := HB4.out.trans (hb5.mono (Nat.le_succ _))
                  refine hK.out _ _ HA5.out.cells (fun hS => ?_)
                  clear hK K hown5 hgrow5 hb5
                  refine wpAnyH_take (i := 8) (v := ?_) rfl (by kernel_rfl) (by kernel_rfl) (by kernel_rfl) (fun _ _ _ h => h) (Or.inl ⟨by rfl, ?_⟩) hS ?_
                  rotate_left 1
                  · intro w hSw; (try dsimp only at hSw); go_simp <;> with_reducible rfl
                  simp only [List.getElem_toArray, List.getElem_cons_zero, List.getElem_cons_succ, Act.put, List.setIfInBounds_toArray, List.set_cons_zero, List.set_cons_succ]
                  refine wpAnyH_done (by kernel_rfl) ?_ _
                  go_wp2
                  go_ret
                  exact ⟨_, rfl, by rw [HIns.out, HI.out, ← HM.out, HFi.out]; simpa using GOwn.mono HO5.out (Nat.le_succ _), HB5.out⟩
              · have hkk : k2 = n := by omega
                have hki2 : decide ((k2 : Int) < (n : Int)) = false := by simp; omega
                have HFi : Hid (SpanMath.mrg r2 (ds.drop k2) = r2 :: ds.drop k2) := by show _ = _; rw [hkk, HDn.out]; rfl
                clear r0 r1
                go_upto_region 8 with (fail)
                (try simp only [Act.put])
                refine wp_region_grow (by kernel_rfl) (by kernel_rfl) ?_
                repeat (go_big_quiet_step (fail))
                refine wpQuiet_nil ?_
                intro _ hw'
                obtain ⟨n1, hw''⟩ := hw'
                subst hw''
                have HA9 : Hid (RgAt n1.w w.heap.size r2) := HA.out.later n1.below HA.out.lt
                have HO9 : Hid _ := HOw.out.later n1.below
                have HB9 : Hid (Below w.heap.size w n1.w) := HB.out.trans (n1.below.mono HB.out.size)
                have HS9 : Hid (w.heap.size + 1 ≤ n1.w.heap.size) := Nat.le_trans HS.out n1.below.size
                clear r0' r1' HA HOw HB HS
                generalize n1.w = u9 at *
                clear hne n1
                clear hkk hki2 e2

                obtain ⟨at1, at2, _, hk2, _, hr2, _, hn2⟩ := cutsG_of (HGr.out w (Below.refl _ _)) HN.out hc HNil.out hk2n
                have HRa : Hid (∀ w', Below w.heap.size w w' → GRow w' at2 (ds.drop k2)) := fun w' hB => GRow.later hr2 hB
                have HN2 : Hid (at2 = none → cap - k2 = 0) := hn2
                have HL2 : Hid (n - k2 = (ds.drop k2).length) := (HDl.out k2).symm
                have HLk : Hid ((ds.take k).length ≤ k) := HTl.out k
                clear hr2 hn2
                obtain ⟨r0, r1⟩ := HA9.out.cells
                go_upto_region 11 with (fail)
                have HAd : Hid (RgAt u9.drew w.heap.size r2) := HA9.out.drew
                have HOd : Hid (GOwn u9.drew (w.heap.size + 1) _ (ds.take k)) := ⟨HO9.out.own⟩
                have HBd : Hid (Below w.heap.size w u9.drew) := HB9.out.drew
                have HSd : Hid (w.heap.size + 1 ≤ u9.drew.heap.size) := HS9.out
                clear HA9 HO9 HB9 HS9
                refine wp_region_held_drew (S := fun w' => w'.cell? ⟨w.heap.size, 0, none⟩ = some (.int .i64 r2.f) ∧ w'.cell? ⟨w.heap.size, 1, none⟩ = some (.int .i64 r2.t)) (by kernel_rfl) ⟨r0, r1⟩ (fun hS => ?_)
                clear r0 r1
                generalize u9.drew = v0 at *
                refine wpAnyH_take (i := 0) (v := ?_) rfl (by kernel_rfl) (by kernel_rfl) (by kernel_rfl) (fun _ _ _ h => h) (Or.inl ⟨by rfl, ?_⟩) hS ?_
                rotate_left 1
                · intro w hSw; (try dsimp only at hSw); go_simp <;> with_reducible rfl
                simp only [List.getElem_toArray, List.getElem_cons_zero, List.getElem_cons_succ, Act.put, List.setIfInBounds_toArray, List.set_cons_zero, List.set_cons_succ]
                refine wpAnyH_take (i := 1) (v := ?_) rfl (by kernel_rfl) (by kernel_rfl) (by kernel_rfl) (fun _ _ _ h => h) (Or.inl ⟨by rfl, ?_⟩) hS ?_
                rotate_left 1
                · intro w hSw; (try dsimp only at hSw); go_simp <;> with_reducible rfl
                simp only [List.getElem_toArray, List.getElem_cons_zero, List.getElem_cons_succ, Act.put, List.setIfInBounds_toArray, List.set_cons_zero, List.set_cons_succ]
                refine wpAnyH_take (i := 4) (v := ?_) rfl (by kernel_rfl) (by kernel_rfl) (by kernel_rfl) (fun _ _ _ h => h) (Or.inl ⟨by rfl, ?_⟩) hS ?_
                rotate_left 1
                · intro w hSw; (try dsimp only at hSw); go_simp <;> with_reducible rfl
                simp only [List.getElem_toArray, List.getElem_cons_zero, List.getElem_cons_succ, Act.put, List.setIfInBounds_toArray, List.set_cons_zero, List.set_cons_succ]
                refine wpAnyH_take (i := 5) (v := ?_) rfl (by kernel_rfl) (by kernel_rfl) (by kernel_rfl) (fun _ _ _ h => h) (Or.inl ⟨by rfl, ?_⟩) hS ?_
                rotate_left 1
                · intro w hSw; (try dsimp only at hSw); go_simp <;> with_reducible rfl
                simp only [List.getElem_toArray, List.getElem_cons_zero, List.getElem_cons_succ, Act.put, List.setIfInBounds_toArray, List.set_cons_zero, List.set_cons_succ]
                refine wpAnyH_take (i := 6) (v := ?_) rfl (by kernel_rfl) (by kernel_rfl) (by kernel_rfl) (fun _ _ _ h => h) (Or.inl ⟨by rfl, ?_⟩) hS ?_
                rotate_left 1
                · intro w hSw; (try dsimp only at hSw); go_simp <;> with_reducible rfl
                simp only [List.getElem_toArray, List.getElem_cons_zero, List.getElem_cons_succ, Act.put, List.setIfInBounds_toArray, List.set_cons_zero, List.set_cons_succ]
                refine wpAnyH_ready (rs := [2]) (by kernel_rfl) (by simp) ?_
                refine AllReadyH.cons rfl (fun K hK => ?_) AllReadyH.nil
                go_simp
                have hbl : Below v0.heap.size v0 (v0.alloc (.cells #[.int .i64 r2.f, .int .i64 r2.t] 24)) := (Below.refl _ _).alloc (Nat.le_refl _) _
                have HLi : Hid (GRow (v0.alloc (.cells #[.int .i64 r2.f, .int .i64 r2.t] 24)) (some ⟨v0.heap.size, 0, none⟩) [r2]) := lit_rngs v0 [r2] rfl
                have HA3 : Hid _ := HAd.out.later hbl HAd.out.lt
                have HO3 : Hid _ := HOd.out.later hbl
                have HB3 : Hid _ := HBd.out.trans (hbl.mono HBd.out.size)
                have HS3 : Hid _ := Nat.le_trans HSd.out hbl.size
                refine hK.out _ _ HA3.out.cells (fun hS => ?_)
                clear hK K hbl HAd HOd HBd HSd
                generalize v0.alloc (.cells #[.int .i64 r2.f, .int .i64 r2.t] 24) = v1 at *
                generalize v0.heap.size = gl at *
                refine wpAnyH_ready (rs := [3]) (by kernel_rfl) (by simp) ?_
                refine AllReadyH.cons rfl (fun K hK => ?_) AllReadyH.nil
                refine wp_app_rngs _ _ rfl (w.heap.size + 1) _ (ds.take k) rfl HO3.out (some ⟨gl, 0, none⟩) 1 [r2] 1 rfl rfl HLi.out (by simp) (Nat.le_refl _) (by have := HLk.out; simp; omega) HS3.out ?_
                intro v2 w4 hown4 hgrow4
                have hb4 : Below (w.heap.size + 1) v1 w4 := (Below.refl _ _).grown hgrow4 HS3.out (fun q hq => (HO3.out.lt q hq).1)
                have HA4 : Hid (RgAt w4 w.heap.size r2) := HA3.out.later hb4 (Nat.lt_succ_self _)
                have HO4 : Hid (GOwn w4 (w.heap.size + 1) v2 (ds.take k ++ [r2])) := hown4
                have HB4 : Hid (Below w.heap.size w w4) := HB3.out.trans (hb4.mono (Nat.le_succ _))
                have HS4 : Hid (w.heap.size + 1 ≤ w4.heap.size) := Nat.le_trans HS3.out hgrow4.size
                have HR4 : Hid (GRow w4 at2 (ds.drop k2)) := HRa.out _ HB4.out
                refine hK.out _ _ HA4.out.cells (fun hS => ?_)
                clear hK K hown4 hgrow4 hb4 HA3 HO3 HB3 HS3 HLi
                refine wpAnyH_ready (rs := [7]) (by kernel_rfl) (by simp) ?_
                refine AllReadyH.cons rfl (fun K hK => ?_) AllReadyH.nil
                refine wp_app_rngs _ _ rfl (w.heap.size + 1) v2 (ds.take k ++ [r2]) rfl HO4.out at2 (cap - k2) (ds.drop k2) (n - k2) HL2.out rfl HR4.out HN2.out (by omega) (by have := HLk.out; have := HL2.out; simp only [List.length_append, List.length_singleton]; omega) HS4.out ?_
                intro v5 w5 hown5 hgrow5
                have hb5 : Below (w.heap.size + 1) w4 w5 := (Below.refl _ _).grown hgrow5 HS4.out (fun q hq => (HO4.out.lt q hq).1)
                have HA5 : Hid (RgAt w5 w.heap.size r2) := HA4.out.later hb5 (Nat.lt_succ_self _)
                have HO5 : Hid (GOwn w5 (w.heap.size + 1) v5 ((ds.take k ++ [r2]) ++ ds.drop k2)) := hown5
                have HB5 : Hid (Below w.heap.size w w5) := HB4.out.trans (hb5.mono (Nat.le_succ _))
                refine hK.out _ _ HA5.out.cells (fun hS => ?_)
                clear hK K hown5 hgrow5 hb5
                refine wpAnyH_take (i := 8) (v := ?_) rfl (by kernel_rfl) (by kernel_rfl) (by kernel_rfl) (fun _ _ _ h => h) (Or.inl ⟨by rfl, ?_⟩) hS ?_
                rotate_left 1
                · intro w hSw; (try dsimp only at hSw); go_simp <;> with_reducible rfl
                simp only [List.getElem_toArray, List.getElem_cons_zero, List.getElem_cons_succ, Act.put, List.setIfInBounds_toArray, List.set_cons_zero, List.set_cons_succ]
                refine wpAnyH_done (by kernel_rfl) ?_ _
                go_wp2
                go_ret
                exact ⟨_, rfl, by rw [HIns.out, HI.out, ← HM.out, HFi.out]; simpa using GOwn.mono HO5.out (Nat.le_succ _), HB5.out⟩
        · have hkk : k = n := by omega
          have hki : decide ((k : Int) < (n : Int)) = false := by simp; omega
          have HI : Hid _ := HAt.out k HK.out hk (.inl hkk)
          obtain ⟨r0, r1⟩ := HA.out.cells
          have hne : Nonempty (Grown1 wr) := ⟨⟨wr, Below.refl _ _⟩⟩
          have r0' := fun u : Grown1 wr => grown1_cell r0 u
          have r1' := fun u : Grown1 wr => grown1_cell r1 u
          clear r0 r1
          go_upto_region 5 with (fail)
          (try simp only [Act.put])
          refine wp_region_grow (by kernel_rfl) (by kernel_rfl) ?_
          repeat (go_big_quiet_step (fail))
          refine wpQuiet_nil ?_
          intro _ hw'
          obtain ⟨n1, hw''⟩ := hw'
          subst hw''
          have HA7 : Hid (RgAt n1.w w.heap.size r) := HA.out.later n1.below HA.out.lt
          have HO7 : Hid _ := HOw.out.later n1.below
          have HB7 : Hid (Below w.heap.size w n1.w) := HB.out.trans (n1.below.mono HB.out.size)
          have HS7 : Hid (w.heap.size + 1 ≤ n1.w.heap.size) := Nat.le_trans HS.out n1.below.size
          clear r0' r1' HA HOw HB HS
          generalize n1.w = u7 at *
          clear hne n1
          clear hki hkk hkn
          have e1' := e1
          clear e1 e1'
          obtain ⟨M, hM⟩ : ∃ M, M = SpanMath.mrg r (ds.drop k) := ⟨_, rfl⟩
          rw [← hM] at HI
          have HM0 : Hid (SpanMath.mrg r (ds.drop k) = M) := hM.symm
          clear hM
          go_wp2_with fail
          go_loopw [6] (fun i wr => ∃ (k2 : Nat) (r2 : Rg), k ≤ k2 ∧ k2 ≤ n ∧ i = .int .i64 k2 ∧ GOwn wr (w.heap.size + 1) _ (ds.take k) ∧ RgAt wr w.heap.size r2 ∧ Hid (SpanMath.mrg r2 (ds.drop k2) = M) ∧ (1 ≤ r2.f ∧ r2.t ≤ 1099511627775 ∧ r2.f ≤ r2.t) ∧ Below w.heap.size w wr ∧ w.heap.size + 1 ≤ wr.heap.size) (fun i _ => n - (intOf i).toNat)
          case atStart => exact ⟨k, r, Nat.le_refl _, hk, rfl, HO7.out, HA7.out, HM0, hokr, HB7.out, HS7.out⟩
          case round =>
            obtain ⟨k2, r2, hkk2, hk2n, rfl, hO, hA, HM, hok2, hB, hS⟩ := hrel
            clear HA7 HB7 HS7 HO7 HM0
            have HOw : Hid (GOwn wr (w.heap.size + 1) _ (ds.take k)) := hO
            have HA : Hid (RgAt wr w.heap.size r2) := hA
            have HB : Hid (Below w.heap.size w wr) := hB
            have HS : Hid (w.heap.size + 1 ≤ wr.heap.size) := hS
            clear hO hA hB hS
            have e2 : IntKind.i64.wrap (r2.t + 1) = r2.t + 1 := by rw [IntKind.wrap_i64]; omega
            have hne : Nonempty (Grown1 wr) := ⟨⟨wr, Below.refl _ _⟩⟩
            obtain ⟨r0, r1⟩ := HA.out.cells
            have r0' := fun u : Grown1 wr => grown1_cell r0 u
            have r1' := fun u : Grown1 wr => grown1_cell r1 u
            by_cases hk2 : k2 < n
            · have hki2 : (k2 : Int) < (n : Int) := by omega
              have hkc2 : (k2 : Int) < (cap : Int) := by omega
              obtain ⟨b, off, rfl, p0, p1⟩ := HC.out k2 hk2 wr HB.out
              have HC2 : Hid (∀ w', Below w.heap.size w w' → w'.cell? ⟨b, off + k2 * 2, none⟩ = some (.int .i64 (ds[k2]?.getD SpanMath.zero).f) ∧ w'.cell? ⟨b, off + k2 * 2 + 1, none⟩ = some (.int .i64 (ds[k2]?.getD SpanMath.zero).t)) := fun w' hB => by
                obtain ⟨b', off', ha, h1⟩ := HC.out k2 hk2 w' hB
                have ha' : b = b' ∧ off = off' := by simpa using ha
                obtain ⟨rfl, rfl⟩ := ha'
                exact h1
              have HD2 : Hid _ := HDr.out k2 hk2
              have hod := HO.out k2 hk2
              obtain ⟨d, hd⟩ : ∃ d, d = ds[k2]?.getD SpanMath.zero := ⟨_, rfl⟩
              rw [← hd] at p0 p1 HD2 hod
              simp only [← hd] at HC2
              clear hd
              have p0' := fun u : Grown1 wr => grown1_cell p0 u
              have p1' := fun u : Grown1 wr => grown1_cell p1 u
              clear p0 p1 r0 r1
              by_cases hx : d.f ≤ r2.t + 1
              · have hxb : decide (d.f ≤ r2.t + 1) = true := decide_eq_true hx
                have HM2 : Hid (SpanMath.mrg ⟨min r2.f d.f, max r2.t d.t⟩ (ds.drop (k2 + 1)) = M) := by show _ = _; rw [← SpanMath.mrg_in hx, ← HD2.out]; exact HM.out
                go_upto_region 8 with (fail)
                (try simp only [Act.put])
                refine wp_region_grow (by kernel_rfl) (by kernel_rfl) ?_
                repeat (go_big_quiet_step (fail))
                refine wpQuiet_nil ?_
                intro _ hw'
                obtain ⟨n1, hw''⟩ := hw'
                subst hw''
                have HA9 : Hid (RgAt n1.w w.heap.size r2) := HA.out.later n1.below HA.out.lt
                have HO9 : Hid _ := HOw.out.later n1.below
                have HB9 : Hid (Below w.heap.size w n1.w) := HB.out.trans (n1.below.mono HB.out.size)
                have HS9 : Hid (w.heap.size + 1 ≤ n1.w.heap.size) := Nat.le_trans HS.out n1.below.size
                clear p0' p1' r0' r1' HA HOw HB HS
                generalize n1.w = u9 at *
                clear hne n1
                clear hx hxb e2
                obtain ⟨p0, p1⟩ := HC2.out u9 HB9.out
                go_upto_region 9 with (fail)
                have HAd : Hid (RgAt u9.drew w.heap.size r2) := HA9.out.drew
                have HOd : Hid (GOwn u9.drew (w.heap.size + 1) _ (ds.take k)) := ⟨HO9.out.own⟩
                have HBd : Hid (Below w.heap.size w u9.drew) := HB9.out.drew
                have HSd : Hid (w.heap.size + 1 ≤ u9.drew.heap.size) := HS9.out
                clear HA9 HO9 HB9 HS9
                refine wp_region_held_drew (S := fun w' => w'.cell? ⟨b, off + k2 * 2, none⟩ = some (.int .i64 d.f) ∧ w'.cell? ⟨b, off + k2 * 2 + 1, none⟩ = some (.int .i64 d.t)) (by kernel_rfl) ⟨p0, p1⟩ (fun hS => ?_)
                clear p0 p1
                generalize u9.drew = v0 at *
                obtain ⟨r0, r1⟩ := HAd.out.cells
                obtain ⟨mn, hmn⟩ : ∃ x : Int, x = min r2.f d.f := ⟨_, rfl⟩
                obtain ⟨mx, hmx⟩ : ∃ x : Int, x = max r2.t d.t := ⟨_, rfl⟩
                rw [← hmn, ← hmx] at HM2
                have hb1 : 1 ≤ mn ∧ mx ≤ 1099511627775 ∧ mn ≤ mx := by omega
                have hmn' : (if d.f < r2.f then d.f else r2.f) = mn := by rw [hmn]; split <;> omega
                have hmx' : (if r2.t < d.t then d.t else r2.t) = mx := by rw [hmx]; split <;> omega
                clear hmn hmx
                refine wpAnyH_take (i := 0) (v := ?_) rfl (by kernel_rfl) (by kernel_rfl) (by kernel_rfl) (fun _ _ _ h => h) (Or.inl ⟨by rfl, ?_⟩) hS ?_
                rotate_left 1
                · intro w hSw; (try dsimp only at hSw); go_simp <;> with_reducible rfl
                simp only [List.getElem_toArray, List.getElem_cons_zero, List.getElem_cons_succ, Act.put, List.setIfInBounds_toArray, List.set_cons_zero, List.set_cons_succ]
                refine wpAnyH_take (i := 2) (v := ?_) rfl (by kernel_rfl) (by kernel_rfl) (by kernel_rfl) (fun _ _ _ h => h) (Or.inl ⟨by rfl, ?_⟩) hS ?_
                rotate_left 1
                · intro w hSw; (try dsimp only at hSw); go_simp <;> with_reducible rfl
                simp only [List.getElem_toArray, List.getElem_cons_zero, List.getElem_cons_succ, Act.put, List.setIfInBounds_toArray, List.set_cons_zero, List.set_cons_succ]
                refine wpAnyH_take (i := 3) (v := ?_) rfl (by kernel_rfl) (by kernel_rfl) (by kernel_rfl) (fun _ _ _ h => h) (Or.inl ⟨by rfl, ?_⟩) hS ?_
                rotate_left 1
                · intro w hSw; (try dsimp only at hSw); go_simp <;> with_reducible rfl
                simp only [List.getElem_toArray, List.getElem_cons_zero, List.getElem_cons_succ, Act.put, List.setIfInBounds_toArray, List.set_cons_zero, List.set_cons_succ]
                refine wpAnyH_take (i := 4) (v := ?_) rfl (by kernel_rfl) (by kernel_rfl) (by kernel_rfl) (fun _ _ _ h => h) (Or.inl ⟨by rfl, ?_⟩) hS ?_
                rotate_left 1
                · intro w hSw; (try dsimp only at hSw); go_simp <;> with_reducible rfl
                simp only [List.getElem_toArray, List.getElem_cons_zero, List.getElem_cons_succ, Act.put, List.setIfInBounds_toArray, List.set_cons_zero, List.set_cons_succ]
                refine wpAnyH_take (i := 5) (v := ?_) rfl (by kernel_rfl) (by kernel_rfl) (by kernel_rfl) (fun _ _ _ h => h) (Or.inl ⟨by rfl, ?_⟩) hS ?_
                rotate_left 1
                · intro w hSw; (try dsimp only at hSw); go_simp <;> with_reducible rfl
                simp only [List.getElem_toArray, List.getElem_cons_zero, List.getElem_cons_succ, Act.put, List.setIfInBounds_toArray, List.set_cons_zero, List.set_cons_succ]
                refine wpAnyH_take (i := 6) (v := ?_) rfl (by kernel_rfl) (by kernel_rfl) (by kernel_rfl) (fun _ _ _ h => h) (Or.inl ⟨by rfl, ?_⟩) hS ?_
                rotate_left 1
                · intro w hSw; (try dsimp only at hSw); go_simp <;> with_reducible rfl
                simp only [List.getElem_toArray, List.getElem_cons_zero, List.getElem_cons_succ, Act.put, List.setIfInBounds_toArray, List.set_cons_zero, List.set_cons_succ]
                refine wpAnyH_take (i := 8) (v := ?_) rfl (by kernel_rfl) (by kernel_rfl) (by kernel_rfl) (fun _ _ _ h => h) (Or.inl ⟨by rfl, ?_⟩) hS ?_
                rotate_left 1
                · intro w hSw; (try dsimp only at hSw); go_simp <;> with_reducible rfl
                simp only [List.getElem_toArray, List.getElem_cons_zero, List.getElem_cons_succ, Act.put, List.setIfInBounds_toArray, List.set_cons_zero, List.set_cons_succ]
                refine wpAnyH_take (i := 10) (v := ?_) rfl (by kernel_rfl) (by kernel_rfl) (by kernel_rfl) (fun _ _ _ h => h) (Or.inl ⟨by rfl, ?_⟩) hS ?_
                rotate_left 1
                · intro w hSw; (try dsimp only at hSw); go_simp <;> with_reducible rfl
                simp only [List.getElem_toArray, List.getElem_cons_zero, List.getElem_cons_succ, Act.put, List.setIfInBounds_toArray, List.set_cons_zero, List.set_cons_succ]
                refine wpAnyH_take (i := 11) (v := ?_) rfl (by kernel_rfl) (by kernel_rfl) (by kernel_rfl) (fun _ _ _ h => h) (Or.inl ⟨by rfl, ?_⟩) hS ?_
                rotate_left 1
                · intro w hSw; (try dsimp only at hSw); go_simp <;> with_reducible rfl
                simp only [List.getElem_toArray, List.getElem_cons_zero, List.getElem_cons_succ, Act.put, List.setIfInBounds_toArray, List.set_cons_zero, List.set_cons_succ]
                refine wpAnyH_take (i := 12) (v := ?_) rfl (by kernel_rfl) (by kernel_rfl) (by kernel_rfl) (fun _ _ _ h => h) (Or.inl ⟨by rfl, ?_⟩) hS ?_
                rotate_left 1
                · intro w hSw; (try dsimp only at hSw); go_simp <;> with_reducible rfl
                simp only [List.getElem_toArray, List.getElem_cons_zero, List.getElem_cons_succ, Act.put, List.setIfInBounds_toArray, List.set_cons_zero, List.set_cons_succ]
                refine wpAnyH_take (i := 13) (v := ?_) rfl (by kernel_rfl) (by kernel_rfl) (by kernel_rfl) (fun _ _ _ h => h) (Or.inl ⟨by rfl, ?_⟩) hS ?_
                rotate_left 1
                · intro w hSw; (try dsimp only at hSw); go_simp <;> with_reducible rfl
                simp only [List.getElem_toArray, List.getElem_cons_zero, List.getElem_cons_succ, Act.put, List.setIfInBounds_toArray, List.set_cons_zero, List.set_cons_succ]
                refine wpAnyH_take (i := 14) (v := ?_) rfl (by kernel_rfl) (by kernel_rfl) (by kernel_rfl) (fun _ _ _ h => h) (Or.inl ⟨by rfl, ?_⟩) hS ?_
                rotate_left 1
                · intro w hSw; (try dsimp only at hSw); go_simp <;> with_reducible rfl
                simp only [List.getElem_toArray, List.getElem_cons_zero, List.getElem_cons_succ, Act.put, List.setIfInBounds_toArray, List.set_cons_zero, List.set_cons_succ]
                refine wpAnyH_ready (rs := [1, 9]) (by kernel_rfl) (by simp) ?_
                refine AllReadyH.cons rfl (fun K hK => ?_) (AllReadyH.cons rfl (fun K hK => ?_) AllReadyH.nil)
                · go_simp
                  refine hK.out _ _ hS (fun hS => ?_)
                  clear hK K
                  refine wpAnyH_take (i := 7) (v := ?_) rfl (by kernel_rfl) (by kernel_rfl) (by kernel_rfl) (fun _ _ _ h => h) (Or.inl ⟨by rfl, ?_⟩) hS ?_
                  rotate_left 1
                  · intro w hSw; (try dsimp only at hSw); go_simp <;> with_reducible rfl
                  simp only [List.getElem_toArray, List.getElem_cons_zero, List.getElem_cons_succ, Act.put, List.setIfInBounds_toArray, List.set_cons_zero, List.set_cons_succ]
                  refine wpAnyH_ready (rs := [9]) (by kernel_rfl) (by simp) ?_
                  refine AllReadyH.cons rfl (fun K hK => ?_) AllReadyH.nil
                  go_simp
                  refine hK.out _ _ hS (fun hS => ?_)
                  clear hK K
                  refine wpAnyH_take (i := 15) (v := ?_) rfl (by kernel_rfl) (by kernel_rfl) (by kernel_rfl) (fun _ _ _ h => h) (Or.inl ⟨by rfl, ?_⟩) hS ?_
                  rotate_left 1
                  · intro w hSw; (try dsimp only at hSw); go_simp <;> with_reducible rfl
                  simp only [List.getElem_toArray, List.getElem_cons_zero, List.getElem_cons_succ, Act.put, List.setIfInBounds_toArray, List.set_cons_zero, List.set_cons_succ]
                  refine wpAnyH_take (i := 16) (v := ?_) rfl (by kernel_rfl) (by kernel_rfl) (by kernel_rfl) (fun _ _ _ h => h) (Or.inl ⟨by rfl, ?_⟩) hS ?_
                  rotate_left 1
                  · intro w hSw; (try dsimp only at hSw); go_simp <;> with_reducible rfl
                  simp only [List.getElem_toArray, List.getElem_cons_zero, List.getElem_cons_succ, Act.put, List.setIfInBounds_toArray, List.set_cons_zero, List.set_cons_succ]
                  refine wpAnyH_ready (rs := [17]) (by kernel_rfl) (by simp) ?_
                  refine AllReadyH.cons rfl (fun K hK => ?_) AllReadyH.nil
                  refine wp_store_cell 2 (.tmp 71) (.tmp 62) rfl w.heap.size 0 24 (rgL r2) (.int .i64 mn) rfl rfl rfl HAd.out.arr size64 (by simp [rgL]) rfl ?_
                  have HA4 : Hid (Arr (v0.setRow w.heap.size ((rgL r2).set 0 (.int .i64 mn)).toArray) w.heap.size 24 ((rgL r2).set 0 (.int .i64 mn))) := Arr.row HAd.out.arr
                  have HB4 : Hid (Below w.heap.size w (v0.setRow w.heap.size ((rgL r2).set 0 (.int .i64 mn)).toArray)) := below_setRow HBd.out (Nat.le_refl _) _
                  have HO4 : Hid (GOwn (v0.setRow w.heap.size ((rgL r2).set 0 (.int .i64 mn)).toArray) (w.heap.size + 1) _ (ds.take k)) := GOwn.row_other HOd.out _ (Nat.lt_succ_self _)
                  have HS4 : Hid (w.heap.size + 1 ≤ (v0.setRow w.heap.size ((rgL r2).set 0 (.int .i64 mn)).toArray).heap.size) := by show _ ≤ _; have := HSd.out; simpa [World.setRow] using this
                  refine hK.out _ _ (HC2.out _ HB4.out) (fun hS => ?_)
                  clear hK K HAd HBd HOd HSd r0 r1
                  generalize v0.setRow w.heap.size ((rgL r2).set 0 (.int .i64 mn)).toArray = v1 at *
                  refine wpAnyH_take (i := 18) (v := ?_) rfl (by kernel_rfl) (by kernel_rfl) (by kernel_rfl) (fun _ _ _ h => h) (Or.inl ⟨by rfl, ?_⟩) hS ?_
                  rotate_left 1
                  · intro w hSw; (try dsimp only at hSw); go_simp <;> with_reducible rfl
                  simp only [List.getElem_toArray, List.getElem_cons_zero, List.getElem_cons_succ, Act.put, List.setIfInBounds_toArray, List.set_cons_zero, List.set_cons_succ]
                  refine wpAnyH_ready (rs := [19]) (by kernel_rfl) (by simp) ?_
                  refine AllReadyH.cons rfl (fun K hK => ?_) AllReadyH.nil
                  refine wp_store_cell 2 (.tmp 72) (.tmp 70) rfl w.heap.size 1 24 ((rgL r2).set 0 (.int .i64 mn)) (.int .i64 mx) rfl rfl rfl HA4.out size64 (by simp [rgL]) rfl ?_
                  have HA5 : Hid (RgAt (v1.setRow w.heap.size (((rgL r2).set 0 (.int .i64 mn)).set 1 (.int .i64 mx)).toArray) w.heap.size ⟨mn, mx⟩) := ⟨Arr.row HA4.out⟩
                  have HB5 : Hid (Below w.heap.size w (v1.setRow w.heap.size (((rgL r2).set 0 (.int .i64 mn)).set 1 (.int .i64 mx)).toArray)) := below_setRow HB4.out (Nat.le_refl _) _
                  have HO5 : Hid (GOwn (v1.setRow w.heap.size (((rgL r2).set 0 (.int .i64 mn)).set 1 (.int .i64 mx)).toArray) (w.heap.size + 1) _ (ds.take k)) := GOwn.row_other HO4.out _ (Nat.lt_succ_self _)
                  have HS5 : Hid (w.heap.size + 1 ≤ (v1.setRow w.heap.size (((rgL r2).set 0 (.int .i64 mn)).set 1 (.int .i64 mx)).toArray).heap.size) := by show _ ≤ _; have := HS4.out; simpa [World.setRow] using this
                  refine hK.out _ _ (HC2.out _ HB5.out) (fun hS => ?_)
                  clear hK K HA4 HB4 HO4 HS4
                  generalize v1.setRow w.heap.size (((rgL r2).set 0 (.int .i64 mn)).set 1 (.int .i64 mx)).toArray = v2 at *
                  refine wpAnyH_done (by kernel_rfl) ?_ _
                  go_wp2
                  go_roundw
                  case rel => exact ⟨k2 + 1, ⟨mn, mx⟩, by omega, by omega, by go_num, HO5.out, HA5.out, HM2, hb1, HB5.out, HS5.out⟩
                  case measure => simp [intOf]; omega
                · go_simp
                  refine hK.out _ _ hS (fun hS => ?_)
                  clear hK K
                  refine wpAnyH_take (i := 15) (v := ?_) rfl (by kernel_rfl) (by kernel_rfl) (by kernel_rfl) (fun _ _ _ h => h) (Or.inl ⟨by rfl, ?_⟩) hS ?_
                  rotate_left 1
                  · intro w hSw; (try dsimp only at hSw); go_simp <;> with_reducible rfl
                  simp only [List.getElem_toArray, List.getElem_cons_zero, List.getElem_cons_succ, Act.put, List.setIfInBounds_toArray, List.set_cons_zero, List.set_cons_succ]
                  refine wpAnyH_ready (rs := [1]) (by kernel_rfl) (by simp) ?_
                  refine AllReadyH.cons rfl (fun K hK => ?_) AllReadyH.nil
                  go_simp
                  refine hK.out _ _ hS (fun hS => ?_)
                  clear hK K
                  refine wpAnyH_take (i := 7) (v := ?_) rfl (by kernel_rfl) (by kernel_rfl) (by kernel_rfl) (fun _ _ _ h => h) (Or.inl ⟨by rfl, ?_⟩) hS ?_
                  rotate_left 1
                  · intro w hSw; (try dsimp only at hSw); go_simp <;> with_reducible rfl
                  simp only [List.getElem_toArray, List.getElem_cons_zero, List.getElem_cons_succ, Act.put, List.setIfInBounds_toArray, List.set_cons_zero, List.set_cons_succ]
                  refine wpAnyH_take (i := 16) (v := ?_) rfl (by kernel_rfl) (by kernel_rfl) (by kernel_rfl) (fun _ _ _ h => h) (Or.inl ⟨by rfl, ?_⟩) hS ?_
                  rotate_left 1
                  · intro w hSw; (try dsimp only at hSw); go_simp <;> with_reducible rfl
                  simp only [List.getElem_toArray, List.getElem_cons_zero, List.getElem_cons_succ, Act.put, List.setIfInBounds_toArray, List.set_cons_zero, List.set_cons_succ]
                  refine wpAnyH_ready (rs := [17]) (by kernel_rfl) (by simp) ?_
                  refine AllReadyH.cons rfl (fun K hK => ?_) AllReadyH.nil
                  refine wp_store_cell 2 (.tmp 71) (.tmp 62) rfl w.heap.size 0 24 (rgL r2) (.int .i64 mn) rfl rfl rfl HAd.out.arr size64 (by simp [rgL]) rfl ?_
                  have HA4 : Hid (Arr (v0.setRow w.heap.size ((rgL r2).set 0 (.int .i64 mn)).toArray) w.heap.size 24 ((rgL r2).set 0 (.int .i64 mn))) := Arr.row HAd.out.arr
                  have HB4 : Hid (Below w.heap.size w (v0.setRow w.heap.size ((rgL r2).set 0 (.int .i64 mn)).toArray)) := below_setRow HBd.out (Nat.le_refl _) _
                  have HO4 : Hid (GOwn (v0.setRow w.heap.size ((rgL r2).set 0 (.int .i64 mn)).toArray) (w.heap.size + 1) _ (ds.take k)) := GOwn.row_other HOd.out _ (Nat.lt_succ_self _)
                  have HS4 : Hid (w.heap.size + 1 ≤ (v0.setRow w.heap.size ((rgL r2).set 0 (.int .i64 mn)).toArray).heap.size) := by show _ ≤ _; have := HSd.out; simpa [World.setRow] using this
                  refine hK.out _ _ (HC2.out _ HB4.out) (fun hS => ?_)
                  clear hK K HAd HBd HOd HSd r0 r1
                  generalize v0.setRow w.heap.size ((rgL r2).set 0 (.int .i64 mn)).toArray = v1 at *
                  refine wpAnyH_take (i := 18) (v := ?_) rfl (by kernel_rfl) (by kernel_rfl) (by kernel_rfl) (fun _ _ _ h => h) (Or.inl ⟨by rfl, ?_⟩) hS ?_
                  rotate_left 1
                  · intro w hSw; (try dsimp only at hSw); go_simp <;> with_reducible rfl
                  simp only [List.getElem_toArray, List.getElem_cons_zero, List.getElem_cons_succ, Act.put, List.setIfInBounds_toArray, List.set_cons_zero, List.set_cons_succ]
                  refine wpAnyH_ready (rs := [19]) (by kernel_rfl) (by simp) ?_
                  refine AllReadyH.cons rfl (fun K hK => ?_) AllReadyH.nil
                  refine wp_store_cell 2 (.tmp 72) (.tmp 70) rfl w.heap.size 1 24 ((rgL r2).set 0 (.int .i64 mn)) (.int .i64 mx) rfl rfl rfl HA4.out size64 (by simp [rgL]) rfl ?_
                  have HA5 : Hid (RgAt (v1.setRow w.heap.size (((rgL r2).set 0 (.int .i64 mn)).set 1 (.int .i64 mx)).toArray) w.heap.size ⟨mn, mx⟩) := ⟨Arr.row HA4.out⟩
                  have HB5 : Hid (Below w.heap.size w (v1.setRow w.heap.size (((rgL r2).set 0 (.int .i64 mn)).set 1 (.int .i64 mx)).toArray)) := below_setRow HB4.out (Nat.le_refl _) _
                  have HO5 : Hid (GOwn (v1.setRow w.heap.size (((rgL r2).set 0 (.int .i64 mn)).set 1 (.int .i64 mx)).toArray) (w.heap.size + 1) _ (ds.take k)) := GOwn.row_other HO4.out _ (Nat.lt_succ_self _)
                  have HS5 : Hid (w.heap.size + 1 ≤ (v1.setRow w.heap.size (((rgL r2).set 0 (.int .i64 mn)).set 1 (.int .i64 mx)).toArray).heap.size) := by show _ ≤ _; have := HS4.out; simpa [World.setRow] using this
                  refine hK.out _ _ (HC2.out _ HB5.out) (fun hS => ?_)
                  clear hK K HA4 HB4 HO4 HS4
                  generalize v1.setRow w.heap.size (((rgL r2).set 0 (.int .i64 mn)).set 1 (.int .i64 mx)).toArray = v2 at *
                  refine wpAnyH_done (by kernel_rfl) ?_ _
                  go_wp2
                  go_roundw
                  case rel => exact ⟨k2 + 1, ⟨mn, mx⟩, by omega, by omega, by go_num, HO5.out, HA5.out, HM2, hb1, HB5.out, HS5.out⟩
                  case measure => simp [intOf]; omega
              · have hxb : decide (d.f ≤ r2.t + 1) = false := decide_eq_false hx
                have HFi : Hid (SpanMath.mrg r2 (ds.drop k2) = r2 :: ds.drop k2) := by show _ = _; rw [HD2.out]; exact SpanMath.mrg_out hx
                go_upto_region 8 with (fail)
                (try simp only [Act.put])
                refine wp_region_grow (by kernel_rfl) (by kernel_rfl) ?_
                repeat (go_big_quiet_step (fail))
                refine wpQuiet_nil ?_
                intro _ hw'
                obtain ⟨n1, hw''⟩ := hw'
                subst hw''
                have HA9 : Hid (RgAt n1.w w.heap.size r2) := HA.out.later n1.below HA.out.lt
                have HO9 : Hid _ := HOw.out.later n1.below
                have HB9 : Hid (Below w.heap.size w n1.w) := HB.out.trans (n1.below.mono HB.out.size)
                have HS9 : Hid (w.heap.size + 1 ≤ n1.w.heap.size) := Nat.le_trans HS.out n1.below.size
                clear p0' p1' r0' r1' HA HOw HB HS
                generalize n1.w = u9 at *
                clear hne n1
                clear hx hxb e2

                obtain ⟨at1, at2, _, hk2, _, hr2, _, hn2⟩ := cutsG_of (HGr.out w (Below.refl _ _)) HN.out hc HNil.out hk2n
                have HRa : Hid (∀ w', Below w.heap.size w w' → GRow w' at2 (ds.drop k2)) := fun w' hB => GRow.later hr2 hB
                have HN2 : Hid (at2 = none → cap - k2 = 0) := hn2
                have HL2 : Hid (n - k2 = (ds.drop k2).length) := (HDl.out k2).symm
                have HLk : Hid ((ds.take k).length ≤ k) := HTl.out k
                clear hr2 hn2
                obtain ⟨r0, r1⟩ := HA9.out.cells
                go_upto_region 11 with (fail)
                have HAd : Hid (RgAt u9.drew w.heap.size r2) := HA9.out.drew
                have HOd : Hid (GOwn u9.drew (w.heap.size + 1) _ (ds.take k)) := ⟨HO9.out.own⟩
                have HBd : Hid (Below w.heap.size w u9.drew) := HB9.out.drew
                have HSd : Hid (w.heap.size + 1 ≤ u9.drew.heap.size) := HS9.out
                clear HA9 HO9 HB9 HS9
                refine wp_region_held_drew (S := fun w' => w'.cell? ⟨w.heap.size, 0, none⟩ = some (.int .i64 r2.f) ∧ w'.cell? ⟨w.heap.size, 1, none⟩ = some (.int .i64 r2.t)) (by kernel_rfl) ⟨r0, r1⟩ (fun hS => ?_)
                clear r0 r1
                generalize u9.drew = v0 at *
                refine wpAnyH_take (i := 0) (v := ?_) rfl (by kernel_rfl) (by kernel_rfl) (by kernel_rfl) (fun _ _ _ h => h) (Or.inl ⟨by rfl, ?_⟩) hS ?_
                rotate_left 1
                · intro w hSw; (try dsimp only at hSw); go_simp <;> with_reducible rfl
                simp only [List.getElem_toArray, List.getElem_cons_zero, List.getElem_cons_succ, Act.put, List.setIfInBounds_toArray, List.set_cons_zero, List.set_cons_succ]
                refine wpAnyH_take (i := 1) (v := ?_) rfl (by kernel_rfl) (by kernel_rfl) (by kernel_rfl) (fun _ _ _ h => h) (Or.inl ⟨by rfl, ?_⟩) hS ?_
                rotate_left 1
                · intro w hSw; (try dsimp only at hSw); go_simp <;> with_reducible rfl
                simp only [List.getElem_toArray, List.getElem_cons_zero, List.getElem_cons_succ, Act.put, List.setIfInBounds_toArray, List.set_cons_zero, List.set_cons_succ]
                refine wpAnyH_take (i := 4) (v := ?_) rfl (by kernel_rfl) (by kernel_rfl) (by kernel_rfl) (fun _ _ _ h => h) (Or.inl ⟨by rfl, ?_⟩) hS ?_
                rotate_left 1
                · intro w hSw; (try dsimp only at hSw); go_simp <;> with_reducible rfl
                simp only [List.getElem_toArray, List.getElem_cons_zero, List.getElem_cons_succ, Act.put, List.setIfInBounds_toArray, List.set_cons_zero, List.set_cons_succ]
                refine wpAnyH_take (i := 5) (v := ?_) rfl (by kernel_rfl) (by kernel_rfl) (by kernel_rfl) (fun _ _ _ h => h) (Or.inl ⟨by rfl, ?_⟩) hS ?_
                rotate_left 1
                · intro w hSw; (try dsimp only at hSw); go_simp <;> with_reducible rfl
                simp only [List.getElem_toArray, List.getElem_cons_zero, List.getElem_cons_succ, Act.put, List.setIfInBounds_toArray, List.set_cons_zero, List.set_cons_succ]
                refine wpAnyH_take (i := 6) (v := ?_) rfl (by kernel_rfl) (by kernel_rfl) (by kernel_rfl) (fun _ _ _ h => h) (Or.inl ⟨by rfl, ?_⟩) hS ?_
                rotate_left 1
                · intro w hSw; (try dsimp only at hSw); go_simp <;> with_reducible rfl
                simp only [List.getElem_toArray, List.getElem_cons_zero, List.getElem_cons_succ, Act.put, List.setIfInBounds_toArray, List.set_cons_zero, List.set_cons_succ]
                refine wpAnyH_ready (rs := [2]) (by kernel_rfl) (by simp) ?_
                refine AllReadyH.cons rfl (fun K hK => ?_) AllReadyH.nil
                go_simp
                have hbl : Below v0.heap.size v0 (v0.alloc (.cells #[.int .i64 r2.f, .int .i64 r2.t] 24)) := (Below.refl _ _).alloc (Nat.le_refl _) _
                have HLi : Hid (GRow (v0.alloc (.cells #[.int .i64 r2.f, .int .i64 r2.t] 24)) (some ⟨v0.heap.size, 0, none⟩) [r2]) := lit_rngs v0 [r2] rfl
                have HA3 : Hid _ := HAd.out.later hbl HAd.out.lt
                have HO3 : Hid _ := HOd.out.later hbl
                have HB3 : Hid _ := HBd.out.trans (hbl.mono HBd.out.size)
                have HS3 : Hid _ := Nat.le_trans HSd.out hbl.size
                refine hK.out _ _ HA3.out.cells (fun hS => ?_)
                clear hK K hbl HAd HOd HBd HSd
                generalize v0.alloc (.cells #[.int .i64 r2.f, .int .i64 r2.t] 24) = v1 at *
                generalize v0.heap.size = gl at *
                refine wpAnyH_ready (rs := [3]) (by kernel_rfl) (by simp) ?_
                refine AllReadyH.cons rfl (fun K hK => ?_) AllReadyH.nil
                refine wp_app_rngs _ _ rfl (w.heap.size + 1) _ (ds.take k) rfl HO3.out (some ⟨gl, 0, none⟩) 1 [r2] 1 rfl rfl HLi.out (by simp) (Nat.le_refl _) (by have := HLk.out; simp; omega) HS3.out ?_
                intro v2 w4 hown4 hgrow4
                have hb4 : Below (w.heap.size + 1) v1 w4 := (Below.refl _ _).grown hgrow4 HS3.out (fun q hq => (HO3.out.lt q hq).1)
                have HA4 : Hid (RgAt w4 w.heap.size r2) := HA3.out.later hb4 (Nat.lt_succ_self _)
                have HO4 : Hid (GOwn w4 (w.heap.size + 1) v2 (ds.take k ++ [r2])) := hown4
                have HB4 : Hid (Below w.heap.size w w4) := HB3.out.trans (hb4.mono (Nat.le_succ _))
                have HS4 : Hid (w.heap.size + 1 ≤ w4.heap.size) := Nat.le_trans HS3.out hgrow4.size
                have HR4 : Hid (GRow w4 at2 (ds.drop k2)) := HRa.out _ HB4.out
                refine hK.out _ _ HA4.out.cells (fun hS => ?_)
                clear hK K hown4 hgrow4 hb4 HA3 HO3 HB3 HS3 HLi
                refine wpAnyH_ready (rs := [7]) (by kernel_rfl) (by simp) ?_
                refine AllReadyH.cons rfl (fun K hK => ?_) AllReadyH.nil
                refine wp_app_rngs _ _ rfl (w.heap.size + 1) v2 (ds.take k ++ [r2]) rfl HO4.out at2 (cap - k2) (ds.drop k2) (n - k2) HL2.out rfl HR4.out HN2.out (by omega) (by have := HLk.out; have := HL2.out; simp only [List.length_append, List.length_singleton]; omega) HS4.out ?_
                intro v5 w5 hown5 hgrow5
                have hb5 : Below (w.heap.size + 1) w4 w5 := (Below.refl _ _).grown hgrow5 HS4.out (fun q hq => (HO4.out.lt q hq).1)
                have HA5 : Hid (RgAt w5 w.heap.size r2) := HA4.out.later hb5 (Nat.lt_succ_self _)
                have HO5 : Hid (GOwn w5 (w.heap.size + 1) v5 ((ds.take k ++ [r2]) ++ ds.drop k2)) := hown5
                have HB5 : Hid (Below w.heap.size w w5) := HB4.out.trans (hb5.mono (Nat.le_succ _))
                refine hK.out _ _ HA5.out.cells (fun hS => ?_)
                clear hK K hown5 hgrow5 hb5
                refine wpAnyH_take (i := 8) (v := ?_) rfl (by kernel_rfl) (by kernel_rfl) (by kernel_rfl) (fun _ _ _ h => h) (Or.inl ⟨by rfl, ?_⟩) hS ?_
                rotate_left 1
                · intro w hSw; (try dsimp only at hSw); go_simp <;> with_reducible rfl
                simp only [List.getElem_toArray, List.getElem_cons_zero, List.getElem_cons_succ, Act.put, List.setIfInBounds_toArray, List.set_cons_zero, List.set_cons_succ]
                refine wpAnyH_done (by kernel_rfl) ?_ _
                go_wp2
                go_ret
                exact ⟨_, rfl, by rw [HIns.out, HI.out, ← HM.out, HFi.out]; simpa using GOwn.mono HO5.out (Nat.le_succ _), HB5.out⟩
            · have hkk : k2 = n := by omega
              have hki2 : decide ((k2 : Int) < (n : Int)) = false := by simp; omega
              have HFi : Hid (SpanMath.mrg r2 (ds.drop k2) = r2 :: ds.drop k2) := by show _ = _; rw [hkk, HDn.out]; rfl
              clear r0 r1
              go_upto_region 8 with (fail)
              (try simp only [Act.put])
              refine wp_region_grow (by kernel_rfl) (by kernel_rfl) ?_
              repeat (go_big_quiet_step (fail))
              refine wpQuiet_nil ?_
              intro _ hw'
              obtain ⟨n1, hw''⟩ := hw'
              subst hw''
              have HA9 : Hid (RgAt n1.w w.heap.size r2) := HA.out.later n1.below HA.out.lt
              have HO9 : Hid _ := HOw.out.later n1.below
              have HB9 : Hid (Below w.heap.size w n1.w) := HB.out.trans (n1.below.mono HB.out.size)
              have HS9 : Hid (w.heap.size + 1 ≤ n1.w.heap.size) := Nat.le_trans HS.out n1.below.size
              clear r0' r1' HA HOw HB HS
              generalize n1.w = u9 at *
              clear hne n1
              clear hkk hki2 e2

              obtain ⟨at1, at2, _, hk2, _, hr2, _, hn2⟩ := cutsG_of (HGr.out w (Below.refl _ _)) HN.out hc HNil.out hk2n
              have HRa : Hid (∀ w', Below w.heap.size w w' → GRow w' at2 (ds.drop k2)) := fun w' hB => GRow.later hr2 hB
              have HN2 : Hid (at2 = none → cap - k2 = 0) := hn2
              have HL2 : Hid (n - k2 = (ds.drop k2).length) := (HDl.out k2).symm
              have HLk : Hid ((ds.take k).length ≤ k) := HTl.out k
              clear hr2 hn2
              obtain ⟨r0, r1⟩ := HA9.out.cells
              go_upto_region 11 with (fail)
              have HAd : Hid (RgAt u9.drew w.heap.size r2) := HA9.out.drew
              have HOd : Hid (GOwn u9.drew (w.heap.size + 1) _ (ds.take k)) := ⟨HO9.out.own⟩
              have HBd : Hid (Below w.heap.size w u9.drew) := HB9.out.drew
              have HSd : Hid (w.heap.size + 1 ≤ u9.drew.heap.size) := HS9.out
              clear HA9 HO9 HB9 HS9
              refine wp_region_held_drew (S := fun w' => w'.cell? ⟨w.heap.size, 0, none⟩ = some (.int .i64 r2.f) ∧ w'.cell? ⟨w.heap.size, 1, none⟩ = some (.int .i64 r2.t)) (by kernel_rfl) ⟨r0, r1⟩ (fun hS => ?_)
              clear r0 r1
              generalize u9.drew = v0 at *
              refine wpAnyH_take (i := 0) (v := ?_) rfl (by kernel_rfl) (by kernel_rfl) (by kernel_rfl) (fun _ _ _ h => h) (Or.inl ⟨by rfl, ?_⟩) hS ?_
              rotate_left 1
              · intro w hSw; (try dsimp only at hSw); go_simp <;> with_reducible rfl
              simp only [List.getElem_toArray, List.getElem_cons_zero, List.getElem_cons_succ, Act.put, List.setIfInBounds_toArray, List.set_cons_zero, List.set_cons_succ]
              refine wpAnyH_take (i := 1) (v := ?_) rfl (by kernel_rfl) (by kernel_rfl) (by kernel_rfl) (fun _ _ _ h => h) (Or.inl ⟨by rfl, ?_⟩) hS ?_
              rotate_left 1
              · intro w hSw; (try dsimp only at hSw); go_simp <;> with_reducible rfl
              simp only [List.getElem_toArray, List.getElem_cons_zero, List.getElem_cons_succ, Act.put, List.setIfInBounds_toArray, List.set_cons_zero, List.set_cons_succ]
              refine wpAnyH_take (i := 4) (v := ?_) rfl (by kernel_rfl) (by kernel_rfl) (by kernel_rfl) (fun _ _ _ h => h) (Or.inl ⟨by rfl, ?_⟩) hS ?_
              rotate_left 1
              · intro w hSw; (try dsimp only at hSw); go_simp <;> with_reducible rfl
              simp only [List.getElem_toArray, List.getElem_cons_zero, List.getElem_cons_succ, Act.put, List.setIfInBounds_toArray, List.set_cons_zero, List.set_cons_succ]
              refine wpAnyH_take (i := 5) (v := ?_) rfl (by kernel_rfl) (by kernel_rfl) (by kernel_rfl) (fun _ _ _ h => h) (Or.inl ⟨by rfl, ?_⟩) hS ?_
              rotate_left 1
              · intro w hSw; (try dsimp only at hSw); go_simp <;> with_reducible rfl
              simp only [List.getElem_toArray, List.getElem_cons_zero, List.getElem_cons_succ, Act.put, List.setIfInBounds_toArray, List.set_cons_zero, List.set_cons_succ]
              refine wpAnyH_take (i := 6) (v := ?_) rfl (by kernel_rfl) (by kernel_rfl) (by kernel_rfl) (fun _ _ _ h => h) (Or.inl ⟨by rfl, ?_⟩) hS ?_
              rotate_left 1
              · intro w hSw; (try dsimp only at hSw); go_simp <;> with_reducible rfl
              simp only [List.getElem_toArray, List.getElem_cons_zero, List.getElem_cons_succ, Act.put, List.setIfInBounds_toArray, List.set_cons_zero, List.set_cons_succ]
              refine wpAnyH_ready (rs := [2]) (by kernel_rfl) (by simp) ?_
              refine AllReadyH.cons rfl (fun K hK => ?_) AllReadyH.nil
              go_simp
              have hbl : Below v0.heap.size v0 (v0.alloc (.cells #[.int .i64 r2.f, .int .i64 r2.t] 24)) := (Below.refl _ _).alloc (Nat.le_refl _) _
              have HLi : Hid (GRow (v0.alloc (.cells #[.int .i64 r2.f, .int .i64 r2.t] 24)) (some ⟨v0.heap.size, 0, none⟩) [r2]) := lit_rngs v0 [r2] rfl
              have HA3 : Hid _ := HAd.out.later hbl HAd.out.lt
              have HO3 : Hid _ := HOd.out.later hbl
              have HB3 : Hid _ := HBd.out.trans (hbl.mono HBd.out.size)
              have HS3 : Hid _ := Nat.le_trans HSd.out hbl.size
              refine hK.out _ _ HA3.out.cells (fun hS => ?_)
              clear hK K hbl HAd HOd HBd HSd
              generalize v0.alloc (.cells #[.int .i64 r2.f, .int .i64 r2.t] 24) = v1 at *
              generalize v0.heap.size = gl at *
              refine wpAnyH_ready (rs := [3]) (by kernel_rfl) (by simp) ?_
              refine AllReadyH.cons rfl (fun K hK => ?_) AllReadyH.nil
              refine wp_app_rngs _ _ rfl (w.heap.size + 1) _ (ds.take k) rfl HO3.out (some ⟨gl, 0, none⟩) 1 [r2] 1 rfl rfl HLi.out (by simp) (Nat.le_refl _) (by have := HLk.out; simp; omega) HS3.out ?_
              intro v2 w4 hown4 hgrow4
              have hb4 : Below (w.heap.size + 1) v1 w4 := (Below.refl _ _).grown hgrow4 HS3.out (fun q hq => (HO3.out.lt q hq).1)
              have HA4 : Hid (RgAt w4 w.heap.size r2) := HA3.out.later hb4 (Nat.lt_succ_self _)
              have HO4 : Hid (GOwn w4 (w.heap.size + 1) v2 (ds.take k ++ [r2])) := hown4
              have HB4 : Hid (Below w.heap.size w w4) := HB3.out.trans (hb4.mono (Nat.le_succ _))
              have HS4 : Hid (w.heap.size + 1 ≤ w4.heap.size) := Nat.le_trans HS3.out hgrow4.size
              have HR4 : Hid (GRow w4 at2 (ds.drop k2)) := HRa.out _ HB4.out
              refine hK.out _ _ HA4.out.cells (fun hS => ?_)
              clear hK K hown4 hgrow4 hb4 HA3 HO3 HB3 HS3 HLi
              refine wpAnyH_ready (rs := [7]) (by kernel_rfl) (by simp) ?_
              refine AllReadyH.cons rfl (fun K hK => ?_) AllReadyH.nil
              refine wp_app_rngs _ _ rfl (w.heap.size + 1) v2 (ds.take k ++ [r2]) rfl HO4.out at2 (cap - k2) (ds.drop k2) (n - k2) HL2.out rfl HR4.out HN2.out (by omega) (by have := HLk.out; have := HL2.out; simp only [List.length_append, List.length_singleton]; omega) HS4.out ?_
              intro v5 w5 hown5 hgrow5
              have hb5 : Below (w.heap.size + 1) w4 w5 := (Below.refl _ _).grown hgrow5 HS4.out (fun q hq => (HO4.out.lt q hq).1)
              have HA5 : Hid (RgAt w5 w.heap.size r2) := HA4.out.later hb5 (Nat.lt_succ_self _)
              have HO5 : Hid (GOwn w5 (w.heap.size + 1) v5 ((ds.take k ++ [r2]) ++ ds.drop k2)) := hown5
              have HB5 : Hid (Below w.heap.size w w5) := HB4.out.trans (hb5.mono (Nat.le_succ _))
              refine hK.out _ _ HA5.out.cells (fun hS => ?_)
              clear hK K hown5 hgrow5 hb5
              refine wpAnyH_take (i := 8) (v := ?_) rfl (by kernel_rfl) (by kernel_rfl) (by kernel_rfl) (fun _ _ _ h => h) (Or.inl ⟨by rfl, ?_⟩) hS ?_
              rotate_left 1
              · intro w hSw; (try dsimp only at hSw); go_simp <;> with_reducible rfl
              simp only [List.getElem_toArray, List.getElem_cons_zero, List.getElem_cons_succ, Act.put, List.setIfInBounds_toArray, List.set_cons_zero, List.set_cons_succ]
              refine wpAnyH_done (by kernel_rfl) ?_ _
              go_wp2
              go_ret
              exact ⟨_, rfl, by rw [HIns.out, HI.out, ← HM.out, HFi.out]; simpa using GOwn.mono HO5.out (Nat.le_succ _), HB5.out⟩
end Go.Proofs.Ytnkjfenibgiaaaa

/-
  Walk of newsreelref1.DotPut. And: bytes appended onto a row of the call's own.
-/
import Derived.Test.YtehaeepihjookaaFnDotC
import Derived.Test.YtehaeepihjookaaFnDotD
namespace Go.Proofs.Ytehaeepihjookaa
open Go.RowKit NumMath
open DotMath (Dt)
set_option maxRecDepth 100000
set_option linter.unusedVariables false
set_option linter.unusedSimpArgs false

/-- A row of bytes of the call's own. -/
structure BOwn (w : World) (base : Nat) (v : Value) (zs : List Int) : Prop where
  own : w.ownsRow base 5 1 v zs.length (zs.map (Value.int .u8))
theorem BOwn.later {w w' : World} {base : Nat} {v : Value} {zs : List Int} (h : BOwn w base v zs) (hb : Below w.heap.size w w') : BOwn w' base v zs := by
  refine ⟨h.own.1, ?_⟩
  rcases h.own.2 with h2 | ⟨g, cap, cur, h2, h3, h4, h5⟩
  · exact .inl h2
  · refine .inr ⟨g, cap, cur, h2, h3, ?_, h5⟩
    rw [hb.block g (Array.getElem?_eq_some_iff.1 h4).1]
    exact h4
theorem BOwn.nil (w : World) (base : Nat) : BOwn w base (.slice none 0 0) [] := ⟨World.ownsRow_nil w base _ 1⟩
theorem BOwn.ge {w : World} {base : Nat} {v : Value} {zs : List Int} (h : BOwn w base v zs) : ∀ k, v.ownBlock = some k → base ≤ k := fun k hk => own_ge h.own k hk
theorem wpList_app_bytes {ops : Array Oper} {rest : List Oper} {o : Oper} {a : Act} {w : World} {Q : Exit → Act → World → Prop} (hgd : o.guard = none) (s x : Operand) (ho : o.op = .call { callee := .builtin .append, args := #[s, x], argTypes := #[34, 34] })
    (base : Nat) (v : Value) (zs : List Int) (hs : a.eval s = v) (hown : BOwn w base v zs) (y : Value) (ys : List Int) (hx : a.eval x = y) (hy : Bytes w y ys) (hl : zs.length + ys.length ≤ 140737488355328) (hbase : base ≤ w.heap.size)
    (h : ∀ v' w', BOwn w' base v' (zs ++ ys) → w.grownBy w' v.ownBlock → wpList Try.prog ops Q rest (a.put o.dst v') w') : wpList Try.prog ops Q (o :: rest) a w := by
  obtain ⟨i0, hi, hz0, hz1, hz2⟩ := info_parts Try.info5
  obtain ⟨ao, c, rfl, hr, hb, hc, hm, hn⟩ := hy
  refine wpList_append_own_any hgd s x 34 ho base 5 i0 (.int .u8 0) 1 1 Try.underlying34 hi hz0 hz1 hz2 rfl (by decide) v zs.length (zs.map (Value.int .u8)) hs hown.own ao ys.length c (ys.map (Value.int .u8)) hx (by simp) (fun e => ⟨by have := hn e; omega, hn e⟩) hr.news (ints_oneCell _ _) (by unfold maxLen; omega) (by omega) hbase ?_
  intro v' w' h1 h2
  refine h v' w' ⟨?_⟩ h2
  rw [List.length_append, List.map_append]; exact h1

set_option maxHeartbeats 8000000 in
theorem refDotPut_any (a : Option Addr) (ds : List Dt) (cap : Nat) (w : World) (hr : DRow w a ds) (hc : ds.length ≤ cap) (hm : cap ≤ maxLen) :
    Calls Try.prog 23 #[.slice a ds.length cap] w fun e w' => ∃ v, e = .returned v ∧ Bytes w' v (DotMath.put ds) ∧ Below w.heap.size w w' := by
  have HRi : Hid _ := refRising_any a ds cap w hr hc hm
  unfold maxLen at hm
  cases hq : (DotMath.rises ds && decide (ds.length ≤ 16)) with
  | false =>
    rw [hq] at HRi
    have HQ : Hid (DotMath.put ds = []) := by
      show _ = _; unfold DotMath.put; rw [if_neg]; intro h; simp [h.1, h.2] at hq
    rw [HQ.out]
    generalize ds.length = n at *
    clear hr hq
    go_enter Try.func23, Try.ntmps23
    go_wp2_with fail
    refine Calls.mono HRi.out ?_
    rintro e w1 ⟨rfl, hb1⟩
    have HB1 : Hid _ := hb1
    clear hb1
    go_wp2
    go_ret
    exact ⟨_, rfl, bytes_none _, HB1.out⟩
  | true =>
    rw [hq] at HRi
    simp only [Bool.and_eq_true, decide_eq_true_eq] at hq
    have HQ : Hid (DotMath.put ds = D (ds.length : Int) ++ ds.flatMap DotMath.bytes) := by show _ = _; unfold DotMath.put; rw [if_pos hq]
    have hn16 := hq.2
    have HBb : Hid (∀ c ∈ DotMath.put ds, 0 ≤ c ∧ c ≤ 255) := DotMath.put_byte ds
    have HP : Hid (∀ w, Calls Try.prog 19 #[.slice none 0 0, .slice (some ⟨w.heap.size, 0, none⟩) 1 1] (w.alloc (.cells #[.int .u64 (ds.length : Int)] 38)) fun e w' => ∃ v, e = .returned v ∧ BOwn w' w.heap.size v (D (ds.length : Int)) ∧ Below w.heap.size w w') := fun w => by
      have hb1 : Below w.heap.size w (w.alloc (.cells #[.int .u64 (ds.length : Int)] 38)) := (Below.refl _ _).alloc (Nat.le_refl _) _
      refine (refPut_any none (some ⟨w.heap.size, 0, none⟩) [] [(ds.length : Int)] 0 1 _ (.inl rfl) (by simp) (by decide) (by simp) (lit_row w .u64 [(ds.length : Int)] 38 _ rfl) (by simp; omega) (by simp) (by decide) (by simp)).mono ?_
      rintro e w' ⟨v, rfl, hown, hbl⟩
      rw [List.flatMap_cons, List.flatMap_nil, List.append_nil, List.nil_append] at hown
      exact ⟨v, rfl, ⟨own_low hown (by simp)⟩, hb1.trans (hbl.mono hb1.size)⟩
    have HC : Hid (∀ k, k < ds.length → ∀ w', Below w.heap.size w w' → ∃ b off, a = some ⟨b, off, none⟩ ∧ w'.cell? ⟨b, off + k * 2, none⟩ = some (.int .i64 (ds[k]?.getD DotMath.zero).r) ∧ w'.cell? ⟨b, off + k * 2 + 1, none⟩ = some (.int .i64 (ds[k]?.getD DotMath.zero).s)) := fun k hk w' hB => by
      obtain ⟨b, off, ha, _⟩ := (hr.later hB).at (by omega)
      subst ha
      exact ⟨b, off, rfl, DRow.cells (hr.later hB) hk⟩
    have HF : Hid (∀ k, (k < ds.length → D (ds.length : Int) ++ (ds.take (k + 1)).flatMap DotMath.bytes = (D (ds.length : Int) ++ (ds.take k).flatMap DotMath.bytes) ++ DotMath.bytes (ds[k]?.getD DotMath.zero)) ∧ (D (ds.length : Int) ++ (ds.take k).flatMap DotMath.bytes).length ≤ 10 + 11 * k) := fun k => by
      refine ⟨fun hk => ?_, ?_⟩
      · rw [List.take_succ_eq_append_getElem hk, List.flatMap_append]
        simp [hk]
      · have := D_len (ds.length : Int); have := DotMath.flat_len (ds.take k)
        rw [List.length_append]; simp at this ⊢; omega
    have HE : Hid (D (ds.length : Int) ++ (ds.take ds.length).flatMap DotMath.bytes = DotMath.put ds) := by show _ = _; rw [HQ.out, List.take_of_length_le (Nat.le_refl _)]
    have HZ : Hid (D (ds.length : Int) = D (ds.length : Int) ++ (ds.take 0).flatMap DotMath.bytes) := by show _ = _; simp
    obtain ⟨n, hn⟩ : ∃ n, n = ds.length := ⟨_, rfl⟩
    rw [← hn] at hc HRi HP HC HF HE HZ hn16 ⊢
    have e1 : IntKind.u64.wrap (n : Int) = (n : Int) := by rw [IntKind.wrap_u64]; omega
    clear hn hq hr HQ
    go_enter Try.func23, Try.ntmps23
    go_wp2_with fail
    refine Calls.mono HRi.out ?_
    rintro e w1 ⟨rfl, hb1⟩
    have HB1 : Hid _ := hb1
    clear hb1
    go_wp2_with fail
    refine Calls.mono (HP.out _) ?_
    rintro e w2 ⟨v, rfl, hown, hb2⟩
    have HB2 : Hid _ := HB1.out.trans (hb2.mono HB1.out.size)
    have HO2 : Hid (BOwn w2 w.heap.size v (D (n : Int) ++ (ds.take 0).flatMap DotMath.bytes)) := by rw [← HZ.out]; exact ⟨own_low hown.own HB1.out.size⟩
    clear hown hb2 HB1 HP HZ
    go_wp2_with fail
    go_loopw [3, 4] (fun v i wr => ∃ k : Nat, k ≤ n ∧ i = .int .i64 k ∧ BOwn wr w.heap.size v (D (n : Int) ++ (ds.take k).flatMap DotMath.bytes) ∧ Below w.heap.size w wr) (fun _ i _ => n - (intOf i).toNat)
    case atStart => exact ⟨0, by omega, rfl, HO2.out, HB2.out⟩
    case round =>
      obtain ⟨k, hk, rfl, hO, hB⟩ := hrel
      have HB : Hid (Below w.heap.size w wr) := hB
      have HO : Hid (BOwn wr w.heap.size _ (D (n : Int) ++ (ds.take k).flatMap DotMath.bytes)) := hO
      clear hB hO HO2 HB2
      by_cases hkn : k < n
      · have hki : (k : Int) < (n : Int) := by omega
        have hkc : (k : Int) < (cap : Int) := by omega
        obtain ⟨b, off, rfl, p0, p1⟩ := HC.out k hkn wr HB.out
        have HX : Hid _ := (HF.out k).1 hkn
        have hlx := (HF.out k).2
        have HDb : Hid (∀ w, _) := fun w => refDotBytes_any (ds[k]?.getD DotMath.zero) w
        have hdl := DotMath.bytes_len (ds[k]?.getD DotMath.zero)
        unfold dtV at HDb
        generalize ds[k]?.getD DotMath.zero = d at *
        generalize D (n : Int) ++ (ds.take k).flatMap DotMath.bytes = zs at *
        go_wp2_with fail
        refine Calls.mono (HDb.out _) ?_
        rintro e w3 ⟨y, rfl, hy, hb3⟩
        have HY : Hid _ := hy
        have HO3 : Hid _ := HO.out.later hb3
        have HB3 : Hid _ := HB.out.trans (hb3.mono HB.out.size)
        clear hy hb3 HO HB p0 p1 HDb
        go_wp2_with (at_builtin; refine wpList_app_bytes rfl _ _ rfl w.heap.size _ zs rfl HO3.out y (DotMath.bytes d) rfl HY.out (by omega) HB3.out.size ?_; intro v4 w4 hown4 hgrow4)
        have HO4 : Hid (BOwn w4 w.heap.size v4 (D (n : Int) ++ (ds.take (k + 1)).flatMap DotMath.bytes)) := by rw [HX.out]; exact hown4
        have HB4 : Hid (Below w.heap.size w w4) := HB3.out.grown hgrow4 HB3.out.size HO3.out.ge
        clear hown4 hgrow4
        go_wp2
        go_roundw
        case rel => exact ⟨k + 1, by omega, by go_num, HO4.out, HB4.out⟩
        case measure => simp [intOf]; omega
      · have hkk : k = n := by omega
        have hdk : decide ((k : Int) < (n : Int)) = false := by simp; omega
        have HO5 := HO.out
        rw [hkk, HE.out] at HO5
        have HO6 : Hid _ := own_bytes HO5.own HBb.out
        clear HO HO5
        go_wp2
        go_ret
        exact ⟨_, rfl, HO6.out, HB.out⟩
end Go.Proofs.Ytehaeepihjookaa

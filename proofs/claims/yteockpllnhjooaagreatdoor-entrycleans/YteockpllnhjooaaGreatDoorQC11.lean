/-
  ValKit, OwnLater, FnRefClean.
-/
import Derived.Test.YteockpllnhjooaaGreatDoorQC06
import Derived.Laws.OwnMore
namespace Go.Proofs.YteockpllnhjooaaGreatDoor
open Go.RowKit NumMath
set_option maxRecDepth 100000
set_option linter.unusedVariables false
set_option linter.unusedSimpArgs false

/-- A row of the call's own. -/
def Own (w : World) (base e : Nat) (v : Value) (vs : List Value) : Prop := w.ownsRow base e 1 v vs.length vs
/-- From address ao on the cells hold vs (of an empty list nothing is asked of the address). -/
def VRow (w : World) (ao : Option Addr) (vs : List Value) : Prop := vs = [] ∨ ∃ b off, ao = some ⟨b, off, none⟩ ∧ ∀ i v, vs[i]? = some v → w.cell? ⟨b, off + i, none⟩ = some v
theorem Own.nil (w : World) (base e : Nat) : Own w base e (.slice none 0 0) [] := World.ownsRow_nil w base e 1
theorem Own.alloc {w : World} {base e : Nat} {v : Value} {vs : List Value} (h : Own w base e v vs) (o : Obj) : Own (w.alloc o) base e v vs := World.ownsRow.alloc h o
theorem Own.mono {w : World} {base base' e : Nat} {v : Value} {vs : List Value} (h : Own w base e v vs) (hb : base' ≤ base) : Own w base' e v vs := by
  refine ⟨h.1, ?_⟩
  rcases h.2 with h2 | ⟨g, cap, cur, h2, h3, h4⟩
  · exact .inl h2
  · exact .inr ⟨g, cap, cur, h2, by omega, h4⟩
theorem Own.shape {w : World} {base e : Nat} {v : Value} {vs : List Value} (h : Own w base e v vs) :
    ∃ ao cap, v = .slice ao vs.length cap ∧ vs.length ≤ cap ∧ cap ≤ maxLen ∧ (ao = none → cap = 0) ∧ VRow w ao vs := by
  rcases h.2 with ⟨h2, h3⟩ | ⟨g, cap, cur, hv, hg, hcur, h5⟩
  · refine ⟨none, 0, ?_, by omega, by decide, fun _ => rfl, .inl (List.eq_nil_of_length_eq_zero h3)⟩
    rw [h2, h3]
  · subst hv
    have hn := h5
    refine ⟨some ⟨g, 0, none⟩, cap, rfl, by omega, by omega, by simp, .inr ⟨g, 0, rfl, fun i v hi => ?_⟩⟩
    have hil : i < vs.length := (List.getElem?_eq_some_iff.1 hi).1
    have := World.ownsRow.cellAt (w := w) (base := base) (e := e) (size := 1) h i (by omega)
    rw [Nat.zero_add, this, hi]
theorem VRow.later {w w' : World} {ao : Option Addr} {vs : List Value} (h : VRow w ao vs) (hb : Below w.heap.size w w') : VRow w' ao vs := by
  rcases h with h | ⟨b, off, ha, hc⟩
  · exact .inl h
  · refine .inr ⟨b, off, ha, fun i v hi => ?_⟩
    have := hc i v hi
    rw [hb.cell (World.block_lt_of_cell? w _ this)]
    exact this
theorem VRow.at {w : World} {ao : Option Addr} {vs : List Value} (h : VRow w ao vs) {k : Nat} (hk : k < vs.length) : ∃ b off, ao = some ⟨b, off, none⟩ ∧ ∀ i v, vs[i]? = some v → w.cell? ⟨b, off + i, none⟩ = some v := by
  rcases h with h | h
  · subst h; simp at hk
  · exact h
theorem VRow.take {w : World} {ao : Option Addr} {vs : List Value} (h : VRow w ao vs) (j : Nat) : VRow w ao (vs.take j) := by
  rcases h with h | ⟨b, off, ha, hc⟩
  · left; subst h; simp
  · refine .inr ⟨b, off, ha, fun i v hi => hc i v ?_⟩
    rw [List.getElem?_take] at hi
    split at hi
    · exact hi
    · cases hi
theorem VRow.drew {w : World} {ao : Option Addr} {vs : List Value} (h : VRow w ao vs) : VRow w.drew ao vs := h
/-- numbers as values -/
def iv (l : List Nat) : List Value := l.map fun n : Nat => Value.int .i64 (n : Int)
theorem iv_len (l : List Nat) : (iv l).length = l.length := by simp [iv]
theorem iv_get {l : List Nat} {k r : Nat} (h : l[k]? = some r) : (iv l)[k]? = some (.int .i64 (r : Int)) := by simp [iv, h]
theorem iv_append (a b : List Nat) : iv (a ++ b) = iv a ++ iv b := by simp [iv]
theorem iv_take (a : List Nat) (j : Nat) : iv (a.take j) = (iv a).take j := by simp [iv]
/-- texts as values -/
def sv (l : List (List Nat)) : List Value := l.map fun t => Value.string (strN t)
theorem sv_len (l : List (List Nat)) : (sv l).length = l.length := by simp [sv]
theorem sv_get {l : List (List Nat)} {k : Nat} {t : List Nat} (h : l[k]? = some t) : (sv l)[k]? = some (.string (strN t)) := by simp [sv, h]
theorem sv_append (a b : List (List Nat)) : sv (a ++ b) = sv a ++ sv b := by simp [sv]

theorem info3 : (Tryz.prog.info? 3).map (fun i => (i.zero, i.size, i.bytes)) = some (some (.int .i64 0), 1, 8) := by kernel_rfl
theorem info9 : (Tryz.prog.info? 9).map (fun i => (i.zero, i.size, i.bytes)) = some (some (.string ⟨#[]⟩), 1, 16) := by kernel_rfl

section
variable {ops : Array Oper} {rest : List Oper} {o : Oper} {a : Act} {w : World} {Q : Exit → Act → World → Prop}
/-- append of one number. -/
theorem wpList_app_int (hgd : o.guard = none) (s x : Operand) (ho : o.op = .call { callee := .builtin .append, args := #[s, x], argTypes := #[65, 65] })
    (base : Nat) (v : Value) (vs : List Value) (u : Value) (hs : a.eval s = v) (hown : Own w base 3 v vs) (g : Nat) (hx : a.eval x = .slice (some ⟨g, 0, none⟩) 1 1) (hc : w.cell? ⟨g, 0, none⟩ = some u) (hu : u.oneCell' = true)
    (hl : vs.length + 1 ≤ 17592186044416) (hbase : base ≤ w.heap.size)
    (h : ∀ v' w', Own w' base 3 v' (vs ++ [u]) → w.grownBy w' v.ownBlock → wpList Tryz.prog ops Q rest (a.put o.dst v') w') : wpList Tryz.prog ops Q (o :: rest) a w := by
  obtain ⟨i0, hi, hz0, hz1, hz2⟩ := info_parts info3
  refine wpList_append_own_any hgd s x 65 ho base 3 i0 (.int .i64 0) 1 8 Tryz.underlying65 hi hz0 hz1 hz2 rfl (by decide) v vs.length vs hs hown (some ⟨g, 0, none⟩) 1 1 [u] hx rfl (by simp) ?_ ?_ (by unfold maxLen; omega) (by omega) hbase ?_
  · intro ad had j y hy
    obtain rfl := Option.some.inj had
    match j, hy with
    | 0, hy => simp at hy; subst hy; simpa [Addr.add] using hc
  · intro y hy; simp at hy; subst hy; exact hu
  · intro v' w' h1 h2
    exact h v' w' (by unfold Own; rw [List.length_append]; exact h1) h2
/-- append of one text. -/
theorem wpList_app_str (hgd : o.guard = none) (s x : Operand) (ho : o.op = .call { callee := .builtin .append, args := #[s, x], argTypes := #[57, 57] })
    (base : Nat) (v : Value) (vs : List Value) (u : Value) (hs : a.eval s = v) (hown : Own w base 9 v vs) (g : Nat) (hx : a.eval x = .slice (some ⟨g, 0, none⟩) 1 1) (hc : w.cell? ⟨g, 0, none⟩ = some u) (hu : u.oneCell' = true)
    (hl : vs.length + 1 ≤ 8796093022208) (hbase : base ≤ w.heap.size)
    (h : ∀ v' w', Own w' base 9 v' (vs ++ [u]) → w.grownBy w' v.ownBlock → wpList Tryz.prog ops Q rest (a.put o.dst v') w') : wpList Tryz.prog ops Q (o :: rest) a w := by
  obtain ⟨i0, hi, hz0, hz1, hz2⟩ := info_parts info9
  refine wpList_append_own_any hgd s x 57 ho base 9 i0 (.string ⟨#[]⟩) 1 16 Tryz.underlying57 hi hz0 hz1 hz2 rfl (by decide) v vs.length vs hs hown (some ⟨g, 0, none⟩) 1 1 [u] hx rfl (by simp) ?_ ?_ (by unfold maxLen; omega) (by omega) hbase ?_
  · intro ad had j y hy
    obtain rfl := Option.some.inj had
    match j, hy with
    | 0, hy => simp at hy; subst hy; simpa [Addr.add] using hc
  · intro y hy; simp at hy; subst hy; exact hu
  · intro v' w' h1 h2
    exact h v' w' (by unfold Own; rw [List.length_append]; exact h1) h2
end
theorem Own.below {w w' : World} {base e : Nat} {v : Value} {vs : List Value} {W : World} (h : Own w base e v vs) (hg : w.grownBy w' v.ownBlock) (hb : Below base W w) (hs : base ≤ w.heap.size) : Below base W w' :=
  hb.grown hg hs (fun k hk => (World.ownsRow.lt h k hk).1)
end Go.Proofs.YteockpllnhjooaaGreatDoor
namespace Go.Proofs.YteockpllnhjooaaGreatDoor
open Go.RowKit NumMath
set_option maxRecDepth 100000
set_option linter.unusedVariables false
set_option linter.unusedSimpArgs false
theorem Own.later {w w' : World} {base e : Nat} {v : Value} {vs : List Value} (h : Own w base e v vs) (hb : Below w.heap.size w w') : Own w' base e v vs := by
  refine ⟨h.1, ?_⟩
  rcases h.2 with h2 | ⟨g, cap, cur, h2, h3, h4, h5⟩
  · exact .inl h2
  · refine .inr ⟨g, cap, cur, h2, h3, ?_, h5⟩
    rw [hb.block g (Array.getElem?_eq_some_iff.1 h4).1]
    exact h4
end Go.Proofs.YteockpllnhjooaaGreatDoor
namespace Go.Proofs.YteockpllnhjooaaGreatDoor
open Go.RowKit NumMath
set_option maxRecDepth 100000
set_option linter.unusedVariables false
set_option linter.unusedSimpArgs false


set_option maxRecDepth 100000 in
set_option maxHeartbeats 4000000 in
theorem refClean_any (ao : Option Addr) (cap : Nat) (l : List Nat) (w : World) (hr : VRow w ao (iv l)) (hv : ∀ r ∈ l, r ≤ 1114111) (hc : l.length ≤ cap) (hm : cap ≤ maxLen) (hl : l.length ≤ 17592186044000) :
    Calls Tryz.prog 33 #[.slice ao l.length cap] w fun e w' => ∃ v, e = .returned v ∧ Own w' w.heap.size 3 v (iv (TxtMath.clean l)) ∧ Below w.heap.size w w' := by
  unfold maxLen at hm
  obtain ⟨n, hn⟩ : ∃ n, n = l.length := ⟨_, rfl⟩
  have HN : Hid _ := hn
  have HR : Hid _ := hr
  have HV : Hid _ := hv
  have hcl := TxtMath.clean_len l
  rw [← hn] at hc hl hcl ⊢
  clear hn hr hv
  go_enter Tryz.func33, Tryz.ntmps33
  go_wp2
  go_loopw [3, 4, 5] (fun out g i wr => ∃ (k : Nat) (gap : Bool) (acc : List Nat), k ≤ n ∧ i = .int .i64 (k : Int) ∧ g = .bool gap ∧ Own wr w.heap.size 3 out (iv acc) ∧ Below w.heap.size w wr ∧ acc ++ TxtMath.cleanGo gap (!acc.isEmpty) (l.drop k) = TxtMath.clean l) (fun _ _ i _ => n - (intOf i).toNat)
  case atStart => exact ⟨0, false, [], by omega, rfl, rfl, Own.nil _ _ _, Below.refl _ _, by simp [TxtMath.clean]⟩
  case round =>
    obtain ⟨k, gap, acc, hk, rfl, rfl, hown, hbw, hacc⟩ := hrel
    have hal : acc.length ≤ n := by
      have h1 := congrArg List.length hacc
      simp at h1; omega
    have HA : Hid _ := hacc
    have HB : Hid _ := hbw
    have HO : Hid _ := hown
    have hg1 : w.heap.size ≤ wr.heap.size := hbw.size
    by_cases hlt : k < n
    · have hkl : k < l.length := by rw [← HN.out]; exact hlt
      obtain ⟨b, off, rfl, hcell⟩ := VRow.at HR.out (k := k) (by rw [iv_len]; exact hkl)
      obtain ⟨r, hrk⟩ : ∃ r, l[k]? = some r := ⟨l[k], List.getElem?_eq_getElem hkl⟩
      have HC0 : Hid _ := hcell k _ (iv_get hrk)
      have hcx := cell_later HC0.out hbw
      have hr := HV.out r (List.mem_of_getElem? hrk)
      have hdr : l.drop k = r :: l.drop (k + 1) := by
        obtain ⟨h1, h2⟩ := List.getElem?_eq_some_iff.1 hrk
        rw [← h2]; exact List.drop_eq_getElem_cons hkl
      have HD : Hid _ := hdr
      obtain ⟨ao', cp, hov, hc1, hc2, hnil, hrow⟩ := Own.shape hown
      rw [iv_len] at hov hc1
      clear hcell hrk hbw hacc hdr hrow hown
      subst hov
      cases hw : TxtMath.white r with
      | true =>
        go_wp2_with (go_at_call 63; refine (white_any r _ hr).mono ?_; rintro e w2 ⟨rfl, rfl⟩)
        go_roundw
        case rel =>
          refine ⟨k + 1, true, acc, by omega, by simp, rfl, HO.out, HB.out, ?_⟩
          rw [← HA.out, HD.out, TxtMath.cleanGo, if_pos hw]
        case measure => simp [intOf]; omega
      | false =>
        cases hbp : TxtMath.bare r with
        | true =>
          go_wp2_with (first | (go_at_call 63; refine (white_any r _ hr).mono ?_; rintro e w2 ⟨rfl, rfl⟩) | (go_at_call 64; refine (bare_any r _ hr).mono ?_; rintro e w2 ⟨rfl, rfl⟩))
          go_roundw
          case rel =>
            refine ⟨k + 1, gap, acc, by omega, by simp, rfl, HO.out, HB.out, ?_⟩
            rw [← HA.out, HD.out, TxtMath.cleanGo, if_neg (by rw [hw]; decide), if_pos hbp]
          case measure => simp [intOf]; omega
        | false =>
          have HST : Hid (∀ g e, TxtMath.cleanGo g e (r :: l.drop (k + 1)) = (if (g && e) = true then [32] else []) ++ r :: TxtMath.cleanGo false true (l.drop (k + 1))) := by
            intro g e; rw [TxtMath.cleanGo, if_neg (by rw [hw]; decide), if_neg (by rw [hbp]; decide)]
          by_cases hg : gap = true ∧ 0 < acc.length
          · obtain ⟨rfl, hpos⟩ := hg
            go_wp2_with (first | (go_at_call 63; refine (white_any r _ hr).mono ?_; rintro e w2 ⟨rfl, rfl⟩) | (go_at_call 64; refine (bare_any r _ hr).mono ?_; rintro e w2 ⟨rfl, rfl⟩) | (at_builtin; refine wpList_app_int rfl _ _ rfl w.heap.size _ (iv acc) (.int .i64 32) rfl (Own.alloc HO.out _) _ rfl (by simp) rfl (by rw [iv_len]; simp; omega) (by simp; omega) ?_; intro v1 w3 hown1 hgrow1; have HO1 : Hid (Own w3 w.heap.size 3 v1 (iv (acc ++ [32]))) := (by show Own _ _ _ _ _; rw [iv_append]; exact hown1); have HB1 : Hid (Below w.heap.size w w3) := Own.below (Own.alloc HO.out _) hgrow1 (HB.out.alloc hg1 _) (by simp; omega); have hcx3 := cell_later HC0.out HB1.out; have hg3 := HB1.out.size; clear hown1 hgrow1) | (at_builtin; refine wpList_app_int rfl _ _ rfl w.heap.size _ (iv (acc ++ [32])) (.int .i64 (r : Int)) rfl (Own.alloc HO1.out _) _ rfl (by simp) rfl (by rw [iv_len]; simp; omega) (by simp; omega) ?_; intro v2 w4 hown2 hgrow2; have HO2 : Hid (Own w4 w.heap.size 3 v2 (iv (acc ++ [32] ++ [r]))) := (by show Own _ _ _ _ _; rw [iv_append (acc ++ [32])]; exact hown2); have HB2 : Hid (Below w.heap.size w w4) := Own.below (Own.alloc HO1.out _) hgrow2 (HB1.out.alloc hg3 _) (by simp; omega); clear hown2 hgrow2))
            go_roundw
            case rel =>
              refine ⟨k + 1, false, acc ++ [32] ++ [r], by omega, by simp, rfl, HO2.out, HB2.out, ?_⟩
              have e : acc.isEmpty = false := by cases acc with | nil => simp at hpos | cons _ _ => rfl
              have e2 : (acc ++ [32] ++ [r]).isEmpty = false := by cases acc <;> rfl
              rw [← HA.out, HD.out, HST.out, e, e2]; simp
            case measure => simp [intOf]; omega
          · have Hg : Hid (((gap && !acc.isEmpty) = true) = False) := by
              show _ = False
              apply eq_false
              intro h
              simp at h
              exact hg ⟨h.1, List.length_pos_iff.2 h.2⟩
            cases gap with
            | false =>
              go_wp2_with (first | (go_at_call 63; refine (white_any r _ hr).mono ?_; rintro e w2 ⟨rfl, rfl⟩) | (go_at_call 64; refine (bare_any r _ hr).mono ?_; rintro e w2 ⟨rfl, rfl⟩) | (at_builtin; refine wpList_app_int rfl _ _ rfl w.heap.size _ (iv acc) (.int .i64 (r : Int)) rfl (Own.alloc HO.out _) _ rfl (by simp) rfl (by rw [iv_len]; simp; omega) (by simp; omega) ?_; intro v2 w4 hown2 hgrow2; have HO2 : Hid (Own w4 w.heap.size 3 v2 (iv (acc ++ [r]))) := (by show Own _ _ _ _ _; rw [iv_append]; exact hown2); have HB2 : Hid (Below w.heap.size w w4) := Own.below (Own.alloc HO.out _) hgrow2 (HB.out.alloc hg1 _) (by simp; omega); clear hown2 hgrow2))
              go_roundw
              case rel =>
                refine ⟨k + 1, false, acc ++ [r], by omega, by simp, rfl, HO2.out, HB2.out, ?_⟩
                have e2 : (acc ++ [r]).isEmpty = false := by cases acc <;> rfl
                rw [← HA.out, HD.out, HST.out, e2]; simp
              case measure => simp [intOf]; omega
            | true =>
              have hz : acc.length ≤ 0 := by
                rcases Nat.eq_zero_or_pos acc.length with h | h
                · omega
                · exact absurd ⟨rfl, h⟩ hg
              clear hg
              go_wp2_with (first | (go_at_call 63; refine (white_any r _ hr).mono ?_; rintro e w2 ⟨rfl, rfl⟩) | (go_at_call 64; refine (bare_any r _ hr).mono ?_; rintro e w2 ⟨rfl, rfl⟩) | (at_builtin; refine wpList_app_int rfl _ _ rfl w.heap.size _ (iv acc) (.int .i64 (r : Int)) rfl (Own.alloc HO.out _) _ rfl (by simp) rfl (by rw [iv_len]; simp; omega) (by simp; omega) ?_; intro v2 w4 hown2 hgrow2; have HO2 : Hid (Own w4 w.heap.size 3 v2 (iv (acc ++ [r]))) := (by show Own _ _ _ _ _; rw [iv_append]; exact hown2); have HB2 : Hid (Below w.heap.size w w4) := Own.below (Own.alloc HO.out _) hgrow2 (HB.out.alloc hg1 _) (by simp; omega); clear hown2 hgrow2))
              go_roundw
              case rel =>
                refine ⟨k + 1, false, acc ++ [r], by omega, by simp, rfl, HO2.out, HB2.out, ?_⟩
                have e2 : (acc ++ [r]).isEmpty = false := by cases acc <;> rfl
                rw [← HA.out, HD.out, HST.out, e2, if_neg (by rw [Hg.out]; exact id)]; simp
              case measure => simp [intOf]; omega
    · clear hbw hacc hown
      have e : k = n := by omega
      subst e
      go_wp2
      go_ret
      have h0 : l.drop k = [] := List.drop_eq_nil_of_le (by rw [← HN.out]; omega)
      have := HA.out
      rw [h0] at this
      simp [TxtMath.cleanGo] at this
      rw [← this]
      exact ⟨_, rfl, HO.out, HB.out⟩
end Go.Proofs.YteockpllnhjooaaGreatDoor

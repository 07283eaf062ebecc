/-
  Rows whose elements are one cell each: []int and []string, of the call itself or handed in.
-/
import Derived.Test.YteockpllnhjooaaGreatDoorStrKit
import Derived.Laws.OwnMore
namespace Go.Proofs.YteockpllnhjooaaGreatDoor
open Go.RowKit NumMath
set_option maxRecDepth 100000
set_option linter.unusedVariables false
set_option linter.unusedSimpArgs false

/-- A row of the call's own. -/
def Own (w : World) (base e : Nat) (v : Value) (vs : List Value) : Prop := w.ownsRow base e 1 v vs.length vs
/-- From address ao on the cells hold vs (of an empty list nothing is asked of the address). -/
def VRow (w : World) (ao : Option Addr) (vs : List Value) : Prop := vs = [] ∨ ∃ b off, ao = some ⟨b, off, none⟩ ∧ ∀ i v, vs[i]? = some v → w.cell? ⟨b, off + i, none⟩ = some v
theorem Own.nil (w : World) (base e : Nat) : Own w base e (.slice none 0 0) [] := World.ownsRow_nil w base e 1
theorem Own.alloc {w : World} {base e : Nat} {v : Value} {vs : List Value} (h : Own w base e v vs) (o : Obj) : Own (w.alloc o) base e v vs := World.ownsRow.alloc h o
theorem Own.mono {w : World} {base base' e : Nat} {v : Value} {vs : List Value} (h : Own w base e v vs) (hb : base' ≤ base) : Own w base' e v vs := by
  refine ⟨h.1, ?_⟩
  rcases h.2 with h2 | ⟨g, cap, cur, h2, h3, h4⟩
  · exact .inl h2
  · exact .inr ⟨g, cap, cur, h2, by omega, h4⟩
theorem Own.shape {w : World} {base e : Nat} {v : Value} {vs : List Value} (h : Own w base e v vs) :
    ∃ ao cap, v = .slice ao vs.length cap ∧ vs.length ≤ cap ∧ cap ≤ maxLen ∧ (ao = none → cap = 0) ∧ VRow w ao vs := by
  rcases h.2 with ⟨h2, h3⟩ | ⟨g, cap, cur, hv, hg, hcur, h5⟩
  · refine ⟨none, 0, ?_, by omega, by decide, fun _ => rfl, .inl (List.eq_nil_of_length_eq_zero h3)⟩
    rw [h2, h3]
  · subst hv
    have hn := h5
    refine ⟨some ⟨g, 0, none⟩, cap, rfl, by omega, by omega, by simp, .inr ⟨g, 0, rfl, fun i v hi => ?_⟩⟩
    have hil : i < vs.length := (List.getElem?_eq_some_iff.1 hi).1
    have := World.ownsRow.cellAt (w := w) (base := base) (e := e) (size := 1) h i (by omega)
    rw [Nat.zero_add, this, hi]
theorem VRow.later {w w' : World} {ao : Option Addr} {vs : List Value} (h : VRow w ao vs) (hb : Below w.heap.size w w') : VRow w' ao vs := by
  rcases h with h | ⟨b, off, ha, hc⟩
  · exact .inl h
  · refine .inr ⟨b, off, ha, fun i v hi => ?_⟩
    have := hc i v hi
    rw [hb.cell (World.block_lt_of_cell? w _ this)]
    exact this
theorem VRow.at {w : World} {ao : Option Addr} {vs : List Value} (h : VRow w ao vs) {k : Nat} (hk : k < vs.length) : ∃ b off, ao = some ⟨b, off, none⟩ ∧ ∀ i v, vs[i]? = some v → w.cell? ⟨b, off + i, none⟩ = some v := by
  rcases h with h | h
  · subst h; simp at hk
  · exact h
theorem VRow.take {w : World} {ao : Option Addr} {vs : List Value} (h : VRow w ao vs) (j : Nat) : VRow w ao (vs.take j) := by
  rcases h with h | ⟨b, off, ha, hc⟩
  · left; subst h; simp
  · refine .inr ⟨b, off, ha, fun i v hi => hc i v ?_⟩
    rw [List.getElem?_take] at hi
    split at hi
    · exact hi
    · cases hi
theorem VRow.drew {w : World} {ao : Option Addr} {vs : List Value} (h : VRow w ao vs) : VRow w.drew ao vs := h
/-- numbers as values -/
def iv (l : List Nat) : List Value := l.map fun n : Nat => Value.int .i64 (n : Int)
theorem iv_len (l : List Nat) : (iv l).length = l.length := by simp [iv]
theorem iv_get {l : List Nat} {k r : Nat} (h : l[k]? = some r) : (iv l)[k]? = some (.int .i64 (r : Int)) := by simp [iv, h]
theorem iv_append (a b : List Nat) : iv (a ++ b) = iv a ++ iv b := by simp [iv]
theorem iv_take (a : List Nat) (j : Nat) : iv (a.take j) = (iv a).take j := by simp [iv]
/-- texts as values -/
def sv (l : List (List Nat)) : List Value := l.map fun t => Value.string (strN t)
theorem sv_len (l : List (List Nat)) : (sv l).length = l.length := by simp [sv]
theorem sv_get {l : List (List Nat)} {k : Nat} {t : List Nat} (h : l[k]? = some t) : (sv l)[k]? = some (.string (strN t)) := by simp [sv, h]
theorem sv_append (a b : List (List Nat)) : sv (a ++ b) = sv a ++ sv b := by simp [sv]

theorem info3 : (Tryz.prog.info? 3).map (fun i => (i.zero, i.size, i.bytes)) = some (some (.int .i64 0), 1, 8) := by kernel_rfl
theorem info9 : (Tryz.prog.info? 9).map (fun i => (i.zero, i.size, i.bytes)) = some (some (.string ⟨#[]⟩), 1, 16) := by kernel_rfl

section
variable {ops : Array Oper} {rest : List Oper} {o : Oper} {a : Act} {w : World} {Q : Exit → Act → World → Prop}
/-- append of one number. -/
theorem wpList_app_int (hgd : o.guard = none) (s x : Operand) (ho : o.op = .call { callee := .builtin .append, args := #[s, x], argTypes := #[65, 65] })
    (base : Nat) (v : Value) (vs : List Value) (u : Value) (hs : a.eval s = v) (hown : Own w base 3 v vs) (g : Nat) (hx : a.eval x = .slice (some ⟨g, 0, none⟩) 1 1) (hc : w.cell? ⟨g, 0, none⟩ = some u) (hu : u.oneCell' = true)
    (hl : vs.length + 1 ≤ 17592186044416) (hbase : base ≤ w.heap.size)
    (h : ∀ v' w', Own w' base 3 v' (vs ++ [u]) → w.grownBy w' v.ownBlock → wpList Tryz.prog ops Q rest (a.put o.dst v') w') : wpList Tryz.prog ops Q (o :: rest) a w := by
  obtain ⟨i0, hi, hz0, hz1, hz2⟩ := info_parts info3
  refine wpList_append_own_any hgd s x 65 ho base 3 i0 (.int .i64 0) 1 8 Tryz.underlying65 hi hz0 hz1 hz2 rfl (by decide) v vs.length vs hs hown (some ⟨g, 0, none⟩) 1 1 [u] hx rfl (by simp) ?_ ?_ (by unfold maxLen; omega) (by omega) hbase ?_
  · intro ad had j y hy
    obtain rfl := Option.some.inj had
    match j, hy with
    | 0, hy => simp at hy; subst hy; simpa [Addr.add] using hc
  · intro y hy; simp at hy; subst hy; exact hu
  · intro v' w' h1 h2
    exact h v' w' (by unfold Own; rw [List.length_append]; exact h1) h2
/-- append of one text. -/
theorem wpList_app_str (hgd : o.guard = none) (s x : Operand) (ho : o.op = .call { callee := .builtin .append, args := #[s, x], argTypes := #[57, 57] })
    (base : Nat) (v : Value) (vs : List Value) (u : Value) (hs : a.eval s = v) (hown : Own w base 9 v vs) (g : Nat) (hx : a.eval x = .slice (some ⟨g, 0, none⟩) 1 1) (hc : w.cell? ⟨g, 0, none⟩ = some u) (hu : u.oneCell' = true)
    (hl : vs.length + 1 ≤ 8796093022208) (hbase : base ≤ w.heap.size)
    (h : ∀ v' w', Own w' base 9 v' (vs ++ [u]) → w.grownBy w' v.ownBlock → wpList Tryz.prog ops Q rest (a.put o.dst v') w') : wpList Tryz.prog ops Q (o :: rest) a w := by
  obtain ⟨i0, hi, hz0, hz1, hz2⟩ := info_parts info9
  refine wpList_append_own_any hgd s x 57 ho base 9 i0 (.string ⟨#[]⟩) 1 16 Tryz.underlying57 hi hz0 hz1 hz2 rfl (by decide) v vs.length vs hs hown (some ⟨g, 0, none⟩) 1 1 [u] hx rfl (by simp) ?_ ?_ (by unfold maxLen; omega) (by omega) hbase ?_
  · intro ad had j y hy
    obtain rfl := Option.some.inj had
    match j, hy with
    | 0, hy => simp at hy; subst hy; simpa [Addr.add] using hc
  · intro y hy; simp at hy; subst hy; exact hu
  · intro v' w' h1 h2
    exact h v' w' (by unfold Own; rw [List.length_append]; exact h1) h2
end
theorem Own.below {w w' : World} {base e : Nat} {v : Value} {vs : List Value} {W : World} (h : Own w base e v vs) (hg : w.grownBy w' v.ownBlock) (hb : Below base W w) (hs : base ≤ w.heap.size) : Below base W w' :=
  hb.grown hg hs (fun k hk => (World.ownsRow.lt h k hk).1)
end Go.Proofs.YteockpllnhjooaaGreatDoor

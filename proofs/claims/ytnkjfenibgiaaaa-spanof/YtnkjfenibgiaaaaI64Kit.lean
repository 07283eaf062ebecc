/-
  Rows of int64 of the call's own: appends.
-/
import Derived.Test.YtnkjfenibgiaaaaKit
import Derived.Test.YtnkjfenibgiaaaaDrewN
import Derived.Laws.OwnMore
namespace Go.Proofs.Ytnkjfenibgiaaaa
open Go.RowKit NumMath
set_option maxRecDepth 100000
set_option linter.unusedVariables false
set_option linter.unusedSimpArgs false

theorem info2 : (Try.prog.info? 2).map (fun i => (i.zero, i.size, i.bytes)) = some (some (.int .i64 0), 1, 8) := by kernel_rfl
/-- A row of int64 of the call's own. -/
structure NOwn (w : World) (base : Nat) (v : Value) (zs : List Int) : Prop where
  own : w.ownsRow base 2 1 v zs.length (zs.map (Value.int .i64))
theorem NOwn.later {w w' : World} {base : Nat} {v : Value} {zs : List Int} (h : NOwn w base v zs) (hb : Below w.heap.size w w') : NOwn w' base v zs := by
  refine ⟨h.own.1, ?_⟩
  rcases h.own.2 with h2 | ⟨g, cap, cur, h2, h3, h4, h5⟩
  · exact .inl h2
  · refine .inr ⟨g, cap, cur, h2, h3, ?_, h5⟩
    rw [hb.block g (Array.getElem?_eq_some_iff.1 h4).1]
    exact h4
theorem NOwn.nil (w : World) (base : Nat) : NOwn w base (.slice none 0 0) [] := ⟨World.ownsRow_nil w base _ 1⟩
theorem NOwn.alloc {w : World} {base : Nat} {v : Value} {zs : List Int} (h : NOwn w base v zs) (o : Obj) : NOwn (w.alloc o) base v zs := ⟨World.ownsRow.alloc h.own o⟩
theorem NOwn.drew {w : World} {base : Nat} {v : Value} {zs : List Int} (h : NOwn w base v zs) : NOwn w.drew base v zs := ⟨h.own⟩
theorem NOwn.lt {w : World} {base : Nat} {v : Value} {zs : List Int} (h : NOwn w base v zs) : ∀ k, v.ownBlock = some k → base ≤ k ∧ k < w.heap.size := fun k hk => h.own.lt k hk
theorem NOwn.mono {w : World} {base base' : Nat} {v : Value} {zs : List Int} (h : NOwn w base v zs) (hb : base' ≤ base) : NOwn w base' v zs := by
  refine ⟨h.own.1, ?_⟩
  rcases h.own.2 with h2 | ⟨g, cap, cur, h2, h3, h4⟩
  · exact .inl h2
  · exact .inr ⟨g, cap, cur, h2, by omega, h4⟩
theorem NOwn.row {w : World} {base : Nat} {v : Value} {zs : List Int} (h : NOwn w base v zs) : ∃ a cap, v = .slice a zs.length cap ∧ Row .i64 w a zs ∧ zs.length ≤ cap ∧ cap ≤ maxLen ∧ (a = none → cap = 0) := by
  rcases h.own.2 with ⟨h2, h3⟩ | ⟨g, cap, cur, hv, hg, hcur, h5, h6, h7, h8⟩
  · obtain rfl : zs = [] := List.eq_nil_of_length_eq_zero h3
    exact ⟨none, 0, h2, .inl rfl, by simp, by decide, fun _ => rfl⟩
  · refine ⟨some ⟨g, 0, none⟩, cap, hv, .inr ⟨g, 0, rfl, fun k hk => ?_⟩, h5, h6, by simp⟩
    subst hv
    have := World.ownsRow.cellAt (w := w) (base := base) h.own k (by omega)
    rw [Nat.zero_add, this]; simp [hk]
theorem wpList_app_i64 {ops : Array Oper} {rest : List Oper} {o : Oper} {a : Act} {w : World} {Q : Exit → Act → World → Prop} (hgd : o.guard = none) (s x : Operand) (ho : o.op = .call { callee := .builtin .append, args := #[s, x], argTypes := #[35, 35] })
    (base : Nat) (v : Value) (zs : List Int) (hs : a.eval s = v) (hown : NOwn w base v zs) (ao : Option Addr) (c : Nat) (ys : List Int) (n : Nat) (hn : n = ys.length) (hx : a.eval x = .slice ao n c) (hr : Row .i64 w ao ys) (hnil : ao = none → c = 0) (hc : n ≤ c)
    (hl : zs.length + ys.length ≤ 8796093022208) (hbase : base ≤ w.heap.size)
    (h : ∀ v' w', NOwn w' base v' (zs ++ ys) → w.grownBy w' v.ownBlock → wpList Try.prog ops Q rest (a.put o.dst v') w') : wpList Try.prog ops Q (o :: rest) a w := by
  subst hn
  obtain ⟨i0, hi, hz0, hz1, hz2⟩ := info_parts info2
  refine wpList_append_own_any hgd s x 35 ho base 2 i0 (.int .i64 0) 1 8 Try.underlying35 hi hz0 hz1 hz2 rfl (by decide) v zs.length (zs.map (Value.int .i64)) hs hown.own ao ys.length c (ys.map (Value.int .i64)) hx (by simp) (fun e => ⟨by have := hnil e; omega, hnil e⟩) hr.news (ints_oneCell _ _) (by unfold maxLen; omega) (by omega) hbase ?_
  intro v' w' h1 h2
  refine h v' w' ⟨?_⟩ h2
  rw [List.length_append, List.map_append]; exact h1
end Go.Proofs.Ytnkjfenibgiaaaa

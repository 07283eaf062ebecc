/-
  Rows of ranges: pieces of them, rows of the call's own, appends.
-/
import Derived.Test.YtnkjfenibgiaaaaRngRow
import Derived.Test.YtnkjfenibgiaaaaKit
import Derived.Laws.OwnMore
import Derived.ArgAppend
namespace Go.Proofs.Ytnkjfenibgiaaaa
open Go.RowKit NumMath
open SpanMath (Rg)
set_option maxRecDepth 100000
set_option linter.unusedVariables false
set_option linter.unusedSimpArgs false

def flatG (ds : List Rg) : List Value := ds.flatMap rgL
theorem flatG_nil : flatG [] = [] := rfl
theorem flatG_cons (d : Rg) (ds : List Rg) : flatG (d :: ds) = rgL d ++ flatG ds := by simp [flatG]
theorem flatG_append (a b : List Rg) : flatG (a ++ b) = flatG a ++ flatG b := by simp [flatG]
theorem flatG_len (ds : List Rg) : (flatG ds).length = ds.length * 2 := by
  induction ds with
  | nil => rfl
  | cons d t ih => rw [flatG_cons, List.length_append, ih]; simp [rgL]; omega
theorem flatG_one (ds : List Rg) : ∀ u ∈ flatG ds, u.oneCell' = true := by
  intro u hu
  obtain ⟨d, _, hd⟩ := List.mem_flatMap.1 hu
  exact rgL_one d u hd
theorem flatG_at : ∀ (ds : List Rg) (i j : Nat), i < ds.length → j < 2 → (flatG ds)[i * 2 + j]? = (rgL (ds[i]?.getD SpanMath.zero))[j]?
  | [], i, j, hi, _ => by simp at hi
  | d :: t, 0, j, _, hj => by
    rw [flatG_cons, Nat.zero_mul, Nat.zero_add, List.getElem?_append_left (by simp [rgL]; omega)]; rfl
  | d :: t, i + 1, j, hi, hj => by
    rw [flatG_cons, List.getElem?_append_right (by simp [rgL]; omega)]
    have e : (i + 1) * 2 + j - (rgL d).length = i * 2 + j := by simp [rgL]; omega
    rw [e, flatG_at t i j (by simpa using hi) hj]; simp
theorem flatG_cell {w : World} {ao : Option Addr} {ds : List Rg} (h : GRow w ao ds) (hn : 0 < ds.length) : ∃ b off, ao = some ⟨b, off, none⟩ ∧ ∀ j u, (flatG ds)[j]? = some u → w.cell? ⟨b, off + j, none⟩ = some u := by
  obtain ⟨b, off, ha, hc⟩ := h.at hn
  refine ⟨b, off, ha, fun j u hu => ?_⟩
  have hj := (List.getElem?_eq_some_iff.1 hu).1
  rw [flatG_len] at hj
  have e : j = j / 2 * 2 + j % 2 := by omega
  rw [e, flatG_at ds (j / 2) (j % 2) (by omega) (by omega)] at hu
  have := hc (j / 2) (by omega) (j % 2) u hu
  rw [show off + j = off + j / 2 * 2 + j % 2 by omega]
  exact this
theorem grow_of_cells {w : World} {b off : Nat} {ds : List Rg} (h : ∀ j u, (flatG ds)[j]? = some u → w.cell? ⟨b, off + j, none⟩ = some u) : GRow w (some ⟨b, off, none⟩) ds := by
  refine .inr ⟨b, off, rfl, fun i hi j u hu => ?_⟩
  have hj : j < 2 := by have := (List.getElem?_eq_some_iff.1 hu).1; simpa [rgL] using this
  rw [Nat.add_assoc]
  exact h (i * 2 + j) u (by rw [flatG_at ds i j hi hj]; exact hu)
theorem GRow.nil (w : World) (ao : Option Addr) : GRow w ao [] := .inl rfl
theorem GRow.take {w : World} {ao : Option Addr} {ds : List Rg} (h : GRow w ao ds) (n : Nat) : GRow w ao (ds.take n) := by
  rcases h with h | ⟨b, off, ha, hc⟩
  · left; rw [h]; simp
  · refine .inr ⟨b, off, ha, fun i hi => ?_⟩
    have hi2 : i < n ∧ i < ds.length := by simp at hi; omega
    have := hc i hi2.2
    rw [show (ds.take n)[i]?.getD SpanMath.zero = ds[i]?.getD SpanMath.zero by rw [List.getElem?_take, if_pos hi2.1]]
    exact this
theorem GRow.drop {w : World} {b off : Nat} {ds : List Rg} (h : GRow w (some ⟨b, off, none⟩) ds) (n : Nat) : GRow w (some ⟨b, off + n * 2, none⟩) (ds.drop n) := by
  rcases h with h | ⟨b', off', ha, hc⟩
  · left; rw [h]; simp
  · have ha' : b = b' ∧ off = off' := by simpa using ha
    obtain ⟨rfl, rfl⟩ := ha'
    refine .inr ⟨b, off + n * 2, rfl, fun i hi => ?_⟩
    have hi2 : n + i < ds.length := by simp at hi; omega
    have := hc (n + i) hi2
    rw [show (ds.drop n)[i]?.getD SpanMath.zero = ds[n + i]?.getD SpanMath.zero by rw [List.getElem?_drop], show off + n * 2 + i * 2 = off + (n + i) * 2 by omega]
    exact this
theorem GRow.drew {w : World} {ao : Option Addr} {ds : List Rg} (h : GRow w ao ds) : GRow w.drew ao ds := h
theorem GRow.cells {w : World} {b off : Nat} {ds : List Rg} (h : GRow w (some ⟨b, off, none⟩) ds) {i : Nat} (hi : i < ds.length) :
    w.cell? ⟨b, off + i * 2, none⟩ = some (.int .i64 (ds[i]?.getD SpanMath.zero).f) ∧ w.cell? ⟨b, off + i * 2 + 1, none⟩ = some (.int .i64 (ds[i]?.getD SpanMath.zero).t) := by
  obtain ⟨b', off', ha, hc⟩ := h.at (by omega)
  have ha' : b = b' ∧ off = off' := by simpa using ha
  obtain ⟨rfl, rfl⟩ := ha'
  exact grange_cells (hc i hi)
theorem GRow.news {w : World} {ao : Option Addr} {ds : List Rg} (h : GRow w ao ds) : ∀ ad, ao = some ad → ∀ j u, (flatG ds)[j]? = some u → w.cell? (ad.add j) = some u := by
  intro ad had j u hu
  have hn : 0 < ds.length := by
    have := (List.getElem?_eq_some_iff.1 hu).1
    rw [flatG_len] at this; omega
  obtain ⟨b, off, ha, hc⟩ := flatG_cell h hn
  rw [ha] at had
  obtain rfl := Option.some.inj had
  rw [Addr.add_lit]
  exact hc j u hu

/-- A row of ranges of the call's own. -/
structure GOwn (w : World) (base : Nat) (v : Value) (ds : List Rg) : Prop where
  own : w.ownsRow base 24 2 v ds.length (flatG ds)
theorem GOwn.nil (w : World) (base : Nat) : GOwn w base (.slice none 0 0) [] := ⟨World.ownsRow_nil w base _ 2⟩
theorem GOwn.alloc {w : World} {base : Nat} {v : Value} {ds : List Rg} (h : GOwn w base v ds) (o : Obj) : GOwn (w.alloc o) base v ds := ⟨World.ownsRow.alloc h.own o⟩
theorem GOwn.mono {w : World} {base base' : Nat} {v : Value} {ds : List Rg} (h : GOwn w base v ds) (hb : base' ≤ base) : GOwn w base' v ds := by
  refine ⟨h.own.1, ?_⟩
  rcases h.own.2 with h2 | ⟨g, cap, cur, h2, h3, h4⟩
  · exact .inl h2
  · exact .inr ⟨g, cap, cur, h2, by omega, h4⟩
theorem GOwn.lt {w : World} {base : Nat} {v : Value} {ds : List Rg} (h : GOwn w base v ds) : ∀ k, v.ownBlock = some k → base ≤ k ∧ k < w.heap.size := fun k hk => h.own.lt k hk
theorem GOwn.later {w w' : World} {base : Nat} {v : Value} {ds : List Rg} (h : GOwn w base v ds) (hb : Below w.heap.size w w') : GOwn w' base v ds := by
  refine ⟨h.own.1, ?_⟩
  rcases h.own.2 with h2 | ⟨g, cap, cur, h2, h3, h4, h5⟩
  · exact .inl h2
  · refine .inr ⟨g, cap, cur, h2, h3, ?_, h5⟩
    have hlt : g < w.heap.size := (Array.getElem?_eq_some_iff.1 h4).1
    rw [hb.block g hlt]; exact h4
/-- What is known of a slice of ranges that lies in memory. -/
def Rngs (w : World) (v : Value) (ds : List Rg) : Prop := ∃ ao cap, v = .slice ao ds.length cap ∧ GRow w ao ds ∧ ds.length ≤ cap ∧ cap ≤ maxLen ∧ (ao = none → cap = 0)
theorem Rngs.later {w w' : World} {v : Value} {ds : List Rg} (h : Rngs w v ds) (hb : Below w.heap.size w w') : Rngs w' v ds := by
  obtain ⟨ao, cap, hv, hr, r⟩ := h
  exact ⟨ao, cap, hv, hr.later hb, r⟩
theorem Rngs.drew {w : World} {v : Value} {ds : List Rg} (h : Rngs w v ds) : Rngs w.drew v ds := h
theorem Rngs.nil (w : World) : Rngs w (.slice none 0 0) [] := ⟨none, 0, rfl, .inl rfl, by simp, by decide, fun _ => rfl⟩
theorem GOwn.ranges {w : World} {base : Nat} {v : Value} {ds : List Rg} (h : GOwn w base v ds) : Rngs w v ds := by
  rcases h.own.2 with ⟨h2, h3⟩ | ⟨g, cap, cur, hv, hg, hcur, h5, h6, h7, h8⟩
  · obtain rfl : ds = [] := List.eq_nil_of_length_eq_zero h3
    rw [h2]; exact Rngs.nil w
  · refine ⟨some ⟨g, 0, none⟩, cap, hv, grow_of_cells (fun j u hu => ?_), h5, h6, by simp⟩
    have hj := (List.getElem?_eq_some_iff.1 hu).1
    rw [flatG_len] at hj
    subst hv
    have := World.ownsRow.cellAt (w := w) (base := base) h.own j (by omega)
    rw [Nat.zero_add, this, hu]
theorem infoRg : (Try.prog.info? 24).map (fun i => (i.zero, i.size, i.bytes)) = some (some (rgV SpanMath.zero), 2, 16) := by kernel_rfl

section
variable {ops : Array Oper} {rest : List Oper} {o : Oper} {a : Act} {w : World} {Q : Exit → Act → World → Prop}
/-- append of a row of ranges onto a row of the call's own. -/
theorem wpList_app_rngs (hgd : o.guard = none) (s x : Operand) (ho : o.op = .call { callee := .builtin .append, args := #[s, x], argTypes := #[22, 22] })
    (base : Nat) (v : Value) (ds : List Rg) (hs : a.eval s = v) (hown : GOwn w base v ds) (ao : Option Addr) (c : Nat) (es : List Rg) (n : Nat) (hn : n = es.length) (hx : a.eval x = .slice ao n c) (hr : GRow w ao es) (hnil : ao = none → c = 0) (hc : n ≤ c)
    (hl : ds.length + es.length ≤ 8796093022208) (hbase : base ≤ w.heap.size)
    (h : ∀ v' w', GOwn w' base v' (ds ++ es) → w.grownBy w' v.ownBlock → wpList Try.prog ops Q rest (a.put o.dst v') w') : wpList Try.prog ops Q (o :: rest) a w := by
  subst hn
  obtain ⟨i0, hi, hz0, hz1, hz2⟩ := info_parts infoRg
  refine wpList_append_own_any hgd s x 22 ho base 24 i0 (rgV SpanMath.zero) 2 16 Try.underlying22 hi hz0 hz1 hz2 rfl (by decide) v ds.length (flatG ds) hs hown.own ao es.length c (flatG es) hx (flatG_len es) (fun e => ⟨by have := hnil e; omega, hnil e⟩) hr.news (flatG_one es) (by unfold maxLen; omega) (by omega) hbase ?_
  intro v' w' h1 h2
  refine h v' w' ⟨?_⟩ h2
  rw [List.length_append, flatG_append]; exact h1
/-- append onto a row that has no room left: new memory. -/
theorem wpList_app_fullG (hgd : o.guard = none) (s x : Operand) (ho : o.op = .call { callee := .builtin .append, args := #[s, x], argTypes := #[22, 22] })
    (ao : Option Addr) (ds : List Rg) (k : Nat) (hk : k = ds.length) (hs : a.eval s = .slice ao k k) (hd : GRow w ao ds) (ad : Addr) (c : Nat) (es : List Rg) (n : Nat) (hn : n = es.length) (hx : a.eval x = .slice (some ad) n c) (hr : GRow w (some ad) es) (hpos : 0 < n)
    (hnone : ao = none → k = 0) (hl : ds.length + es.length ≤ 8796093022208)
    (h : ∀ v' w', GOwn w' w.heap.size v' (ds ++ es) → w.grownBy w' none → wpList Try.prog ops Q rest (a.put o.dst v') w') : wpList Try.prog ops Q (o :: rest) a w := by
  subst hk hn
  obtain ⟨i0, hi, hz0, hz1, hz2⟩ := info_parts infoRg
  refine wpList_append_grows w hgd s x 22 ho 24 i0 (rgV SpanMath.zero) 2 16 Try.underlying22 hi hz0 hz1 hz2 rfl (by decide) ao ds.length ds.length (flatG ds) hs (fun e => ⟨hnone e, hnone e⟩) (flatG_len ds) (fun b hb => hd.news b hb) ad es.length c (flatG es) hx (flatG_len es) (hr.news ad rfl) (flatG_one es) (by omega) (by unfold maxLen; omega) (by omega) ?_
  intro v' w' h1 h2
  refine h v' w' ⟨?_⟩ h2
  rw [List.length_append, flatG_append]; exact h1
end
/-- A literal row of ranges. -/
theorem lit_rngs (w : World) (ds : List Rg) {g : Nat} (hg : g = w.heap.size) : GRow (w.alloc (.cells (flatG ds).toArray 24)) (some ⟨g, 0, none⟩) ds := by
  refine grow_of_cells (fun j u hu => ?_)
  have := Arr.cell (Arr.new w 24 (flatG ds) hg) j
  rw [Nat.zero_add, this]; exact hu
end Go.Proofs.Ytnkjfenibgiaaaa

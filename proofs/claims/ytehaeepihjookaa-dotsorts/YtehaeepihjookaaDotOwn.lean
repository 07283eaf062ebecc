/-
  Rows of dots: pieces of them, rows of the call's own, appends.
-/
import Derived.Test.YtehaeepihjookaaDotRow
import Derived.Test.YtehaeepihjookaaKit
import Derived.Laws.OwnMore
import Derived.ArgAppend
namespace Go.Proofs.Ytehaeepihjookaa
open Go.RowKit NumMath
open DotMath (Dt)
set_option maxRecDepth 100000
set_option linter.unusedVariables false
set_option linter.unusedSimpArgs false

def flatD (ds : List Dt) : List Value := ds.flatMap dtL
theorem flatD_nil : flatD [] = [] := rfl
theorem flatD_cons (d : Dt) (ds : List Dt) : flatD (d :: ds) = dtL d ++ flatD ds := by simp [flatD]
theorem flatD_append (a b : List Dt) : flatD (a ++ b) = flatD a ++ flatD b := by simp [flatD]
theorem flatD_len (ds : List Dt) : (flatD ds).length = ds.length * 2 := by
  induction ds with
  | nil => rfl
  | cons d t ih => rw [flatD_cons, List.length_append, ih]; simp [dtL]; omega
theorem flatD_one (ds : List Dt) : ∀ u ∈ flatD ds, u.oneCell' = true := by
  intro u hu
  obtain ⟨d, _, hd⟩ := List.mem_flatMap.1 hu
  exact dtL_one d u hd
theorem flatD_at : ∀ (ds : List Dt) (i j : Nat), i < ds.length → j < 2 → (flatD ds)[i * 2 + j]? = (dtL (ds[i]?.getD DotMath.zero))[j]?
  | [], i, j, hi, _ => by simp at hi
  | d :: t, 0, j, _, hj => by
    rw [flatD_cons, Nat.zero_mul, Nat.zero_add, List.getElem?_append_left (by simp [dtL]; omega)]; rfl
  | d :: t, i + 1, j, hi, hj => by
    rw [flatD_cons, List.getElem?_append_right (by simp [dtL]; omega)]
    have e : (i + 1) * 2 + j - (dtL d).length = i * 2 + j := by simp [dtL]; omega
    rw [e, flatD_at t i j (by simpa using hi) hj]; simp
theorem flatD_cell {w : World} {ao : Option Addr} {ds : List Dt} (h : DRow w ao ds) (hn : 0 < ds.length) : ∃ b off, ao = some ⟨b, off, none⟩ ∧ ∀ j u, (flatD ds)[j]? = some u → w.cell? ⟨b, off + j, none⟩ = some u := by
  obtain ⟨b, off, ha, hc⟩ := h.at hn
  refine ⟨b, off, ha, fun j u hu => ?_⟩
  have hj := (List.getElem?_eq_some_iff.1 hu).1
  rw [flatD_len] at hj
  have e : j = j / 2 * 2 + j % 2 := by omega
  rw [e, flatD_at ds (j / 2) (j % 2) (by omega) (by omega)] at hu
  have := hc (j / 2) (by omega) (j % 2) u hu
  rw [show off + j = off + j / 2 * 2 + j % 2 by omega]
  exact this
theorem drow_of_cells {w : World} {b off : Nat} {ds : List Dt} (h : ∀ j u, (flatD ds)[j]? = some u → w.cell? ⟨b, off + j, none⟩ = some u) : DRow w (some ⟨b, off, none⟩) ds := by
  refine .inr ⟨b, off, rfl, fun i hi j u hu => ?_⟩
  have hj : j < 2 := by have := (List.getElem?_eq_some_iff.1 hu).1; simpa [dtL] using this
  rw [Nat.add_assoc]
  exact h (i * 2 + j) u (by rw [flatD_at ds i j hi hj]; exact hu)
theorem DRow.nil (w : World) (ao : Option Addr) : DRow w ao [] := .inl rfl
theorem DRow.take {w : World} {ao : Option Addr} {ds : List Dt} (h : DRow w ao ds) (n : Nat) : DRow w ao (ds.take n) := by
  rcases h with h | ⟨b, off, ha, hc⟩
  · left; rw [h]; simp
  · refine .inr ⟨b, off, ha, fun i hi => ?_⟩
    have hi2 : i < n ∧ i < ds.length := by simp at hi; omega
    have := hc i hi2.2
    rw [show (ds.take n)[i]?.getD DotMath.zero = ds[i]?.getD DotMath.zero by rw [List.getElem?_take, if_pos hi2.1]]
    exact this
theorem DRow.drop {w : World} {b off : Nat} {ds : List Dt} (h : DRow w (some ⟨b, off, none⟩) ds) (n : Nat) : DRow w (some ⟨b, off + n * 2, none⟩) (ds.drop n) := by
  rcases h with h | ⟨b', off', ha, hc⟩
  · left; rw [h]; simp
  · have ha' : b = b' ∧ off = off' := by simpa using ha
    obtain ⟨rfl, rfl⟩ := ha'
    refine .inr ⟨b, off + n * 2, rfl, fun i hi => ?_⟩
    have hi2 : n + i < ds.length := by simp at hi; omega
    have := hc (n + i) hi2
    rw [show (ds.drop n)[i]?.getD DotMath.zero = ds[n + i]?.getD DotMath.zero by rw [List.getElem?_drop], show off + n * 2 + i * 2 = off + (n + i) * 2 by omega]
    exact this
theorem DRow.drew {w : World} {ao : Option Addr} {ds : List Dt} (h : DRow w ao ds) : DRow w.drew ao ds := h
theorem DRow.cells {w : World} {b off : Nat} {ds : List Dt} (h : DRow w (some ⟨b, off, none⟩) ds) {i : Nat} (hi : i < ds.length) :
    w.cell? ⟨b, off + i * 2, none⟩ = some (.int .i64 (ds[i]?.getD DotMath.zero).r) ∧ w.cell? ⟨b, off + i * 2 + 1, none⟩ = some (.int .i64 (ds[i]?.getD DotMath.zero).s) := by
  obtain ⟨b', off', ha, hc⟩ := h.at (by omega)
  have ha' : b = b' ∧ off = off' := by simpa using ha
  obtain ⟨rfl, rfl⟩ := ha'
  exact drange_cells (hc i hi)
theorem DRow.news {w : World} {ao : Option Addr} {ds : List Dt} (h : DRow w ao ds) : ∀ ad, ao = some ad → ∀ j u, (flatD ds)[j]? = some u → w.cell? (ad.add j) = some u := by
  intro ad had j u hu
  have hn : 0 < ds.length := by
    have := (List.getElem?_eq_some_iff.1 hu).1
    rw [flatD_len] at this; omega
  obtain ⟨b, off, ha, hc⟩ := flatD_cell h hn
  rw [ha] at had
  obtain rfl := Option.some.inj had
  rw [Addr.add_lit]
  exact hc j u hu

/-- A row of dots of the call's own. -/
structure DOwn (w : World) (base : Nat) (v : Value) (ds : List Dt) : Prop where
  own : w.ownsRow base 23 2 v ds.length (flatD ds)
theorem DOwn.nil (w : World) (base : Nat) : DOwn w base (.slice none 0 0) [] := ⟨World.ownsRow_nil w base _ 2⟩
theorem DOwn.alloc {w : World} {base : Nat} {v : Value} {ds : List Dt} (h : DOwn w base v ds) (o : Obj) : DOwn (w.alloc o) base v ds := ⟨World.ownsRow.alloc h.own o⟩
theorem DOwn.mono {w : World} {base base' : Nat} {v : Value} {ds : List Dt} (h : DOwn w base v ds) (hb : base' ≤ base) : DOwn w base' v ds := by
  refine ⟨h.own.1, ?_⟩
  rcases h.own.2 with h2 | ⟨g, cap, cur, h2, h3, h4⟩
  · exact .inl h2
  · exact .inr ⟨g, cap, cur, h2, by omega, h4⟩
theorem DOwn.lt {w : World} {base : Nat} {v : Value} {ds : List Dt} (h : DOwn w base v ds) : ∀ k, v.ownBlock = some k → base ≤ k ∧ k < w.heap.size := fun k hk => h.own.lt k hk
theorem DOwn.later {w w' : World} {base : Nat} {v : Value} {ds : List Dt} (h : DOwn w base v ds) (hb : Below w.heap.size w w') : DOwn w' base v ds := by
  refine ⟨h.own.1, ?_⟩
  rcases h.own.2 with h2 | ⟨g, cap, cur, h2, h3, h4, h5⟩
  · exact .inl h2
  · refine .inr ⟨g, cap, cur, h2, h3, ?_, h5⟩
    have hlt : g < w.heap.size := (Array.getElem?_eq_some_iff.1 h4).1
    rw [hb.block g hlt]; exact h4
/-- What is known of a slice of dots that lies in memory. -/
def Dots (w : World) (v : Value) (ds : List Dt) : Prop := ∃ ao cap, v = .slice ao ds.length cap ∧ DRow w ao ds ∧ ds.length ≤ cap ∧ cap ≤ maxLen ∧ (ao = none → cap = 0)
theorem Dots.later {w w' : World} {v : Value} {ds : List Dt} (h : Dots w v ds) (hb : Below w.heap.size w w') : Dots w' v ds := by
  obtain ⟨ao, cap, hv, hr, r⟩ := h
  exact ⟨ao, cap, hv, hr.later hb, r⟩
theorem Dots.drew {w : World} {v : Value} {ds : List Dt} (h : Dots w v ds) : Dots w.drew v ds := h
theorem Dots.nil (w : World) : Dots w (.slice none 0 0) [] := ⟨none, 0, rfl, .inl rfl, by simp, by decide, fun _ => rfl⟩
theorem DOwn.dots {w : World} {base : Nat} {v : Value} {ds : List Dt} (h : DOwn w base v ds) : Dots w v ds := by
  rcases h.own.2 with ⟨h2, h3⟩ | ⟨g, cap, cur, hv, hg, hcur, h5, h6, h7, h8⟩
  · obtain rfl : ds = [] := List.eq_nil_of_length_eq_zero h3
    rw [h2]; exact Dots.nil w
  · refine ⟨some ⟨g, 0, none⟩, cap, hv, drow_of_cells (fun j u hu => ?_), h5, h6, by simp⟩
    have hj := (List.getElem?_eq_some_iff.1 hu).1
    rw [flatD_len] at hj
    subst hv
    have := World.ownsRow.cellAt (w := w) (base := base) h.own j (by omega)
    rw [Nat.zero_add, this, hu]
theorem infoDt : (Try.prog.info? 23).map (fun i => (i.zero, i.size, i.bytes)) = some (some (dtV DotMath.zero), 2, 16) := by kernel_rfl

section
variable {ops : Array Oper} {rest : List Oper} {o : Oper} {a : Act} {w : World} {Q : Exit → Act → World → Prop}
/-- append of a row of dots onto a row of the call's own. -/
theorem wpList_app_dots (hgd : o.guard = none) (s x : Operand) (ho : o.op = .call { callee := .builtin .append, args := #[s, x], argTypes := #[25, 25] })
    (base : Nat) (v : Value) (ds : List Dt) (hs : a.eval s = v) (hown : DOwn w base v ds) (ao : Option Addr) (c : Nat) (es : List Dt) (n : Nat) (hn : n = es.length) (hx : a.eval x = .slice ao n c) (hr : DRow w ao es) (hnil : ao = none → c = 0) (hc : n ≤ c)
    (hl : ds.length + es.length ≤ 8796093022208) (hbase : base ≤ w.heap.size)
    (h : ∀ v' w', DOwn w' base v' (ds ++ es) → w.grownBy w' v.ownBlock → wpList Try.prog ops Q rest (a.put o.dst v') w') : wpList Try.prog ops Q (o :: rest) a w := by
  subst hn
  obtain ⟨i0, hi, hz0, hz1, hz2⟩ := info_parts infoDt
  refine wpList_append_own_any hgd s x 25 ho base 23 i0 (dtV DotMath.zero) 2 16 Try.underlying25 hi hz0 hz1 hz2 rfl (by decide) v ds.length (flatD ds) hs hown.own ao es.length c (flatD es) hx (flatD_len es) (fun e => ⟨by have := hnil e; omega, hnil e⟩) hr.news (flatD_one es) (by unfold maxLen; omega) (by omega) hbase ?_
  intro v' w' h1 h2
  refine h v' w' ⟨?_⟩ h2
  rw [List.length_append, flatD_append]; exact h1
/-- append onto a row that has no room left: new memory. -/
theorem wpList_app_full (hgd : o.guard = none) (s x : Operand) (ho : o.op = .call { callee := .builtin .append, args := #[s, x], argTypes := #[25, 25] })
    (ao : Option Addr) (ds : List Dt) (k : Nat) (hk : k = ds.length) (hs : a.eval s = .slice ao k k) (hd : DRow w ao ds) (ad : Addr) (c : Nat) (es : List Dt) (n : Nat) (hn : n = es.length) (hx : a.eval x = .slice (some ad) n c) (hr : DRow w (some ad) es) (hpos : 0 < n)
    (hnone : ao = none → k = 0) (hl : ds.length + es.length ≤ 8796093022208)
    (h : ∀ v' w', DOwn w' w.heap.size v' (ds ++ es) → w.grownBy w' none → wpList Try.prog ops Q rest (a.put o.dst v') w') : wpList Try.prog ops Q (o :: rest) a w := by
  subst hk hn
  obtain ⟨i0, hi, hz0, hz1, hz2⟩ := info_parts infoDt
  refine wpList_append_grows w hgd s x 25 ho 23 i0 (dtV DotMath.zero) 2 16 Try.underlying25 hi hz0 hz1 hz2 rfl (by decide) ao ds.length ds.length (flatD ds) hs (fun e => ⟨hnone e, hnone e⟩) (flatD_len ds) (fun b hb => hd.news b hb) ad es.length c (flatD es) hx (flatD_len es) (hr.news ad rfl) (flatD_one es) (by omega) (by unfold maxLen; omega) (by omega) ?_
  intro v' w' h1 h2
  refine h v' w' ⟨?_⟩ h2
  rw [List.length_append, flatD_append]; exact h1
end
/-- A literal row of dots. -/
theorem lit_dots (w : World) (ds : List Dt) {g : Nat} (hg : g = w.heap.size) : DRow (w.alloc (.cells (flatD ds).toArray 23)) (some ⟨g, 0, none⟩) ds := by
  refine drow_of_cells (fun j u hu => ?_)
  have := Arr.cell (Arr.new w 23 (flatD ds) hg) j
  rw [Nat.zero_add, this]; exact hu
end Go.Proofs.Ytehaeepihjookaa

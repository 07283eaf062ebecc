/-
  Rows of numbers in memory, appends onto rows of the call itself, strings of rows, regions that draw their order: what the walks of many functions share.
-/
import Derived.Test.YtnkjfenibgiaaaaRows
import Derived.Test.YtnkjfenibgiaaaaMath
import Derived.WalkKit
import Derived.OpenShut
import Derived.Laws.AppendOwnNone
import Derived.Deep.RegionHeld
namespace Go.Proofs.Ytnkjfenibgiaaaa
open Go.RowKit NumMath
set_option maxRecDepth 100000
set_option linter.unusedVariables false
set_option linter.unusedSimpArgs false

theorem ret_int {k : IntKind} {a b : Int} (h : a = b) : Ending.returned (.int k a) = .returned (.int k b) := by rw [h]

theorem p64 : (2 : Int) ^ 64 = 18446744073709551616 := by decide

theorem p8 : (2 : Int) ^ 8 = 256 := by decide

theorem wraps64 (n : Int) (h : 0 ≤ n) (h' : n < 2 ^ 64) : IntKind.u64.wrap n = n := by
  rw [p64] at h'
  exact IntWalk.u64_in n ⟨h, by omega⟩

/-- From address a on the cells hold the numbers zs (of an empty list nothing is asked of the address). -/
def Row (k : IntKind) (w : World) (a : Option Addr) (zs : List Int) : Prop :=
  zs = [] ∨ ∃ b off, a = some ⟨b, off, none⟩ ∧ ∀ i, i < zs.length → w.cell? ⟨b, off + i, none⟩ = some (.int k (zs.getD i 0))

theorem Row.later {k : IntKind} {w w' : World} {a : Option Addr} {zs : List Int} (h : Row k w a zs) (hb : Below w.heap.size w w') : Row k w' a zs := by
  rcases h with h | ⟨b, off, ha, hc⟩
  · exact .inl h
  · refine .inr ⟨b, off, ha, fun i hi => ?_⟩
    have := hc i hi
    rw [hb.cell (World.block_lt_of_cell? w _ this)]
    exact this

theorem Row.news {k : IntKind} {w : World} {a : Option Addr} {zs : List Int} (h : Row k w a zs) : ∀ ad, a = some ad → ∀ j u, (zs.map (Value.int k))[j]? = some u → w.cell? (ad.add j) = some u := by
  intro ad had j u hu
  have hj : j < zs.length := by simpa using (List.getElem?_eq_some_iff.1 hu).1
  rcases h with rfl | ⟨b, off, ha, hc⟩
  · simp at hj
  · rw [had] at ha
    obtain rfl := Option.some.inj ha
    rw [Addr.add_lit, hc j hj]
    rw [List.getElem?_map] at hu
    simp [hj] at hu ⊢
    exact hu

theorem Row.take {k : IntKind} {w : World} {a : Option Addr} {zs : List Int} (h : Row k w a zs) (j : Nat) : Row k w a (zs.take j) := by
  rcases h with h | ⟨b, off, ha, hcell⟩
  · left; rw [h]; simp
  · refine .inr ⟨b, off, ha, fun i hi => ?_⟩
    simp at hi
    have h1 := hcell i (by omega)
    rw [h1]
    have h2 : i < j := by omega
    simp [h2]

theorem Row.drew {k : IntKind} {w : World} {a : Option Addr} {zs : List Int} (h : Row k w a zs) : Row k w.drew a zs := by
  rcases h with h | ⟨b, off, ha, hc⟩
  · exact .inl h
  · exact .inr ⟨b, off, ha, hc⟩

/-- What stands behind the first m. -/
theorem Row.rest {w : World} {b off m c : Nat} {xs ys : List Int} (h : Row .u8 w (some ⟨b, off, none⟩) (xs ++ ys)) (hm : xs.length = m) (hc : (xs ++ ys).length ≤ c) {ao : Option Addr} (hao : ¬ c = m → ao = some ⟨b, off + m, none⟩) : Row .u8 w ao ys := by
  by_cases e : c = m
  · left
    apply List.eq_nil_of_length_eq_zero
    simp at hc; omega
  · rcases h with h | ⟨b', off', ha, hcell⟩
    · left; simp at h; exact h.2
    · have ha' : b = b' ∧ off = off' := by simpa using ha
      obtain ⟨rfl, rfl⟩ := ha'
      refine .inr ⟨b, off + m, hao e, fun i hi => ?_⟩
      have := hcell (m + i) (by simp; omega)
      rw [show off + m + i = off + (m + i) by omega, this, ← hm]
      simp [List.getElem?_append_right]

theorem Try.info5 : (Try.prog.info? 5).map (fun i => (i.zero, i.size, i.bytes)) = some (some (.int .u8 0), 1, 1) := by kernel_rfl

theorem one_new (w : World) (v : Value) (t : TypeId) : ∀ j u, [v][j]? = some u → (w.alloc (.cells #[v] t)).cell? ((⟨w.heap.size, 0, none⟩ : Addr).add j) = some u := by
  intro j u hj
  match j, hj with
  | 0, hj => simp at hj; subst hj; simp [Addr.add]

theorem one_cell (k : IntKind) (x : Int) : ∀ u ∈ [Value.int k x], u.oneCell' = true := by
  intro u hu; simp at hu; subst hu; rfl

/-- An append onto a row of the call's own, of whatever source: nil, empty or not. -/
theorem wpList_append_own_any {P : Program} {w : World} {ops : Array Oper} {rest : List Oper} {o : Oper} {a : Act} {Q : Exit → Act → World → Prop} (hgd : o.guard = none) (s x : Operand) (t : TypeId)
    (ho : o.op = .call { callee := .builtin .append, args := #[s, x], argTypes := #[t, t] })
    (base : Nat) (e : TypeId) (i : TypeInfo) (z : Value) (size bytes : Nat) (ht : P.underlying t = some (.slice e)) (hi : P.info? e = some i) (hz : i.zero = some z)
    (hsize : i.size = size) (hby : i.bytes = bytes) (hzs : z.cells.size = size) (hsz : 0 < size)
    (v : Value) (n : Nat) (xs : List Value) (hs : a.eval s = v) (hown : w.ownsRow base e size v n xs)
    (ao : Option Addr) (m c : Nat) (news : List Value) (hx : a.eval x = .slice ao m c) (hl : news.length = m * size) (hnone : ao = none → m = 0 ∧ c = 0)
    (hnews : ∀ ad, ao = some ad → ∀ j u, news[j]? = some u → w.cell? (ad.add j) = some u) (h1 : ∀ u ∈ news, u.oneCell' = true)
    (h63 : n + m ≤ maxLen) (hbytes : (n + m) * bytes ≤ 140737488355328) (hbase : base ≤ w.heap.size)
    (h : ∀ v' w', w'.ownsRow base e size v' (n + m) (xs ++ news) → w.grownBy w' v.ownBlock → wpList P ops Q rest (a.put o.dst v') w') : wpList P ops Q (o :: rest) a w := by
  cases ao with
  | some ad => exact wpList_append_own w hgd s x t ho base e i z size bytes ht hi hz hsize hby hzs hsz v n xs hs hown ad m c news hx hl (hnews ad rfl) h1 h63 hbytes hbase (fun v' w' h2 h3 _ => h v' w' h2 h3)
  | none =>
    obtain ⟨rfl, rfl⟩ := hnone rfl
    have hn0 : news = [] := List.eq_nil_of_length_eq_zero (by simpa using hl)
    subst hn0
    exact wpList_append_own_none hgd s x t ho base e i size ht hi v n xs hs hown hx (h v w (by simpa using hown) (World.grownBy.refl _ _))

section
variable {P : Program} {w : World} {ops : Array Oper} {rest : List Oper} {o : Oper} {a : Act} {Q : Exit → Act → World → Prop}

/-- An operation whose guard says yes. -/
theorem wpList_want (hg : Region.wanted o (yielded ops a.tmps) = true) (h : ∀ K : Act → World → Prop, (∀ a w, wpList P ops Q rest a w → K a w) → o.wp P a w K Q) : wpList P ops Q (o :: rest) a w :=
  wpList_step fun K hK => by rw [if_pos hg]; exact h K hK

/-- An append onto a row of the call's own, of whatever source, under a guard that says yes. -/
theorem wpList_append_own_want (hg : Region.wanted o (yielded ops a.tmps) = true) (s x : Operand) (t : TypeId)
    (ho : o.op = .call { callee := .builtin .append, args := #[s, x], argTypes := #[t, t] })
    (base : Nat) (e : TypeId) (i : TypeInfo) (z : Value) (size bytes : Nat) (ht : P.underlying t = some (.slice e)) (hi : P.info? e = some i) (hz : i.zero = some z)
    (hsize : i.size = size) (hby : i.bytes = bytes) (hzs : z.cells.size = size) (hsz : 0 < size)
    (v : Value) (n : Nat) (xs : List Value) (hs : a.eval s = v) (hown : w.ownsRow base e size v n xs)
    (ao : Option Addr) (m c : Nat) (news : List Value) (hx : a.eval x = .slice ao m c) (hl : news.length = m * size) (hnone : ao = none → m = 0 ∧ c = 0)
    (hnews : ∀ ad, ao = some ad → ∀ j u, news[j]? = some u → w.cell? (ad.add j) = some u) (h1 : ∀ u ∈ news, u.oneCell' = true)
    (h63 : n + m ≤ maxLen) (hbytes : (n + m) * bytes ≤ 140737488355328) (hbase : base ≤ w.heap.size)
    (h : ∀ v' w', w'.ownsRow base e size v' (n + m) (xs ++ news) → w.grownBy w' v.ownBlock → wpList P ops Q rest (a.put o.dst v') w') : wpList P ops Q (o :: rest) a w := by
  refine wpList_want hg fun K hK => ?_
  cases ao with
  | some ad => exact wp_append_own w s x t ho base e i z size bytes ht hi hz hsize hby hzs hsz v n xs hs hown ad m c news hx hl (hnews ad rfl) h1 h63 hbytes hbase (fun v' w' h2 h3 _ => hK _ _ (h v' w' h2 h3))
  | none =>
    obtain ⟨rfl, rfl⟩ := hnone rfl
    have hn0 : news = [] := List.eq_nil_of_length_eq_zero (by simpa using hl)
    subst hn0
    have hrun := run_append_owned_none (P := P) (w := w) base t o.type e i size ht hi v n xs hown
    unfold Oper.wp
    simp [execOp, ho, resolve, invoke, builtin, hs, hx, hrun, Result.andThen]
    exact hK _ _ (h v w (by simpa using hown) (World.grownBy.refl _ _))

end

theorem own_ge {w : World} {base : Nat} {e : TypeId} {size : Nat} {v : Value} {n : Nat} {xs : List Value} (h : w.ownsRow base e size v n xs) : ∀ k, v.ownBlock = some k → base ≤ k := fun k hk => (h.lt k hk).1

/-- A row of bytes that the call owns, as a string. -/
theorem own_string {w : World} {base n : Nat} {v : Value} {xs : List Int} (h : w.ownsRow base 5 1 v n (xs.map (Value.int .u8))) : (convert 36 9 v).run Try.prog w = .ok (.string (strOfNums xs)) w := by
  have hl : xs.length = n := by simpa using h.1
  rcases h.2 with ⟨rfl, h0⟩ | ⟨g, cap, cur, rfl, _, _, _⟩
  · have : xs = [] := List.eq_nil_of_length_eq_zero (by omega)
    subst this
    exact run_convert_bytes_nil w 36 5 Try.underlying36 Try.underlying5 0 0 9 Try.underlying9
  · refine run_convert_bytes_arg w 36 5 Try.underlying36 Try.underlying5 g 0 n cap xs hl ?_ 9 Try.underlying9
    intro i hi
    rw [Nat.zero_add, h.cellAt i (by omega)]
    have : i < xs.length := by omega
    simp [this]

theorem own_row {w : World} {base n cap g : Nat} {xs : List Int} (h : w.ownsRow base 5 1 (.slice (some ⟨g, 0, none⟩) n cap) n (xs.map (Value.int .u8))) (k : Nat) (hk : k ≤ n) : Row .u8 w (some ⟨g, 0, none⟩) (xs.take k) := by
  have hl : xs.length = n := by simpa using h.1
  refine .inr ⟨g, 0, rfl, fun i hi => ?_⟩
  have hi' : i < k := by simp at hi; omega
  rw [Nat.zero_add, h.cellAt i (by omega)]
  have : i < xs.length := by omega
  simp [this, hi']

theorem lit_row (w : World) (k : IntKind) (l : List Int) (t : TypeId) (g : Nat) (hg : g = w.heap.size) : Row k (w.alloc (.cells (l.map (Value.int k)).toArray t)) (some ⟨g, 0, none⟩) l := by
  refine .inr ⟨g, 0, rfl, fun i hi => ?_⟩
  rw [Nat.zero_add]
  simp [hi, hg]

/-- A slice of integers that came in: its elements are a row. -/
theorem isRow_use {k : IntKind} {w : World} {a : Option Addr} {len cap : Nat} {zs : List Int}
    (h : (a = none ∧ len = 0 ∧ cap = 0 ∧ zs = []) ∨ ∃ x, a = some x ∧ len ≤ cap ∧ cap ≤ maxLen ∧ zs.length = cap ∧ (∀ i, i < zs.length → w.cell? (x.add i) = some (.int k (zs.getD i 0))) ∧ ∀ n ∈ zs, (Lit.int k n).wf = true) :
    ∃ xs : List Int, Row k w a xs ∧ xs.length = len ∧ len ≤ cap ∧ cap ≤ maxLen ∧ (a = none → cap = 0) ∧ ∀ n ∈ xs, (Lit.int k n).wf = true := by
  rcases h with ⟨rfl, rfl, rfl, rfl⟩ | ⟨x, rfl, hl, hm, hz, hc, hwf⟩
  · exact ⟨[], .inl rfl, rfl, Nat.le_refl _, by decide, fun _ => rfl, by simp⟩
  · refine ⟨zs.take len, ?_, by simp; omega, hl, hm, fun h => (by simp at h), fun n hn => hwf n (List.mem_of_mem_take hn)⟩
    by_cases h0 : len = 0
    · left; simp [h0]
    · right
      obtain ⟨b, off, spot⟩ := x
      have h1 := hc 0 (by omega)
      have hspot : spot = none := by simpa [Addr.add] using World.cell?_spot h1
      subst hspot
      refine ⟨b, off, rfl, fun i hi => ?_⟩
      simp at hi
      have h2 := hc i (by omega)
      rw [Addr.add_lit] at h2
      rw [h2]
      have h3 : i < len := by omega
      have h4 : i < zs.length := by omega
      simp [h3, h4]

/-- What is owned is a slice of whatever shape, and a row. -/
theorem own_shape {w : World} {base n : Nat} {v : Value} {xs : List Int} (h : w.ownsRow base 5 1 v n (xs.map (Value.int .u8))) :
    ∃ a c, v = .slice a xs.length c ∧ Row .u8 w a xs ∧ xs.length ≤ c ∧ c ≤ maxLen ∧ (a = none → c = 0) := by
  have hl : xs.length = n := by simpa using h.1
  rcases h.2 with ⟨rfl, h0⟩ | ⟨g, cap, cur, rfl, _, _, hnc, hcm, _⟩
  · have : xs = [] := List.eq_nil_of_length_eq_zero (by omega)
    subst this
    exact ⟨none, 0, rfl, .inl rfl, Nat.le_refl _, by decide, fun _ => rfl⟩
  · refine ⟨some ⟨g, 0, none⟩, cap, by rw [hl], ?_, by omega, hcm, fun h => by simp at h⟩
    have := own_row h n (Nat.le_refl _)
    rwa [List.take_of_length_le (by omega)] at this

theorem u8s {zs : List Int} (hw : ∀ n ∈ zs, (Lit.int .u8 n).wf = true) : ∀ c ∈ zs, 0 ≤ c ∧ c ≤ 255 := fun c hc => bounds_u8 (hw c hc)

theorem u64s {zs : List Int} (hw : ∀ n ∈ zs, (Lit.int .u64 n).wf = true) : ∀ c ∈ zs, 0 ≤ c ∧ c ≤ 18446744073709551615 := fun c hc => bounds_u64 (hw c hc)

/-- What is owned and not empty is a slice at the head of a row. -/
theorem own_some {w : World} {base n : Nat} {v : Value} {xs : List Value} (h : w.ownsRow base 5 1 v n xs) (hn : 0 < n) : ∃ g cap, v = .slice (some ⟨g, 0, none⟩) n cap ∧ base ≤ g ∧ n ≤ cap ∧ cap ≤ maxLen := by
  rcases h.2 with ⟨rfl, h0⟩ | ⟨g, cap, cur, rfl, hb, _, hnc, hcm, _⟩
  · omega
  · exact ⟨g, cap, rfl, hb, hnc, hcm⟩

theorem bytes_take {zs : List Int} (h : ∀ c ∈ zs, 0 ≤ c ∧ c ≤ 255) (j : Nat) : ∀ c ∈ zs.take j, 0 ≤ c ∧ c ≤ 255 := fun c hc => h c (List.mem_of_mem_take hc)

theorem bytes_set {zs : List Int} (h : ∀ c ∈ zs, 0 ≤ c ∧ c ≤ 255) (j : Nat) {x : Int} (hx : 0 ≤ x ∧ x ≤ 255) : ∀ c ∈ zs.set j x, 0 ≤ c ∧ c ≤ 255 := by
  intro c hc
  rcases List.mem_or_eq_of_mem_set hc with h1 | h1
  · exact h c h1
  · rw [h1]; exact hx

theorem bytes_append {xs ys : List Int} (h : ∀ c ∈ xs, 0 ≤ c ∧ c ≤ 255) (h' : ∀ c ∈ ys, 0 ≤ c ∧ c ≤ 255) : ∀ c ∈ xs ++ ys, 0 ≤ c ∧ c ≤ 255 := by
  intro c hc
  rcases List.mem_append.1 hc with h1 | h1
  · exact h c h1
  · exact h' c h1

theorem own_kept {w w2 : World} {b e s g n c : Nat} {row : Option Nat} {xs : List Value} (h : w.ownsRow b e s (.slice (some ⟨g, 0, none⟩) n c) n xs) (hg : w.grownBy w2 row) (hr : ∀ k, row = some k → k ≠ g) : w2.ownsRow b e s (.slice (some ⟨g, 0, none⟩) n c) n xs := by
  refine h.kept hg ?_
  cases row with
  | none => right; simp [Value.ownBlock]
  | some k => right; have := hr k rfl; simp [Value.ownBlock]; omega

theorem own_base {w : World} {b e s g n c : Nat} {xs : List Value} (h : w.ownsRow b e s (.slice (some ⟨g, 0, none⟩) n c) n xs) : b ≤ w.heap.size := by
  have := h.lt g rfl; omega

theorem mod_nat (x : Int) (k : Nat) (hk : 0 < k) : ∃ t : Nat, t < k ∧ x % (k : Int) = (t : Int) := by
  have h1 := Int.emod_lt_of_pos x (show (0 : Int) < (k : Int) by omega)
  have h2 := Int.emod_nonneg x (show (k : Int) ≠ 0 by omega)
  exact ⟨(x % (k : Int)).toNat, by omega, by omega⟩

/-- A row of bytes as a string. -/
theorem row_string {w : World} {a : Option Addr} {zs : List Int} {cap : Nat} (h : Row .u8 w a zs) : (convert 36 9 (.slice a zs.length cap)).run Try.prog w = .ok (.string (strOfNums zs)) w := by
  rcases h with rfl | ⟨b, off, rfl, hc⟩
  · cases a with
    | none => exact run_convert_bytes_nil w 36 5 Try.underlying36 Try.underlying5 0 cap 9 Try.underlying9
    | some x =>
      rw [run_convert_bytes_string w 36 9 5 _ _ cap Try.underlying36 Try.underlying5 Try.underlying9]
      exact run_bytesToString w x 0 cap [] (by simp [loadCells, loadCellsFrom])
  · exact run_convert_bytes_arg w 36 5 Try.underlying36 Try.underlying5 b off zs.length cap zs rfl hc 9 Try.underlying9

theorem cell_later {w W : World} {p : Addr} {v : Value} (h : w.cell? p = some v) (hb : Below w.heap.size w W) : W.cell? p = some v := (hb.cell (World.block_lt_of_cell? w _ h)).trans h

/-- A condition may be made stronger on the way. -/
theorem wpAnyH_weaken {P : Program} {ops : Array Oper} {Q : Exit → Act → World → Prop} {md : Region.Mode} {S S2 : World → Prop} (hs : ∀ w, S2 w → S w) :
    ∀ (fuel : Nat) (listed : Array Bool) (a : Act) (w : World), wpAnyH P md ops Q S2 fuel listed a w → wpAnyH P md ops Q S fuel listed a w
  | 0, _, _, _, h => h
  | fuel + 1, _, _, _, h => ⟨h.1, fun i hi => wpOp_mono (fun a' w' h' => ⟨hs _ h'.1, wpAnyH_weaken hs fuel _ a' w' h'.2⟩) (h.2 i hi)⟩

end Go.Proofs.Ytnkjfenibgiaaaa

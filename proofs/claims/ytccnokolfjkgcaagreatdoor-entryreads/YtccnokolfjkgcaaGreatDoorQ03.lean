/-
  Kit, CrcKit, FnLastFits, FnTake, FixM, FnRefFixed.
-/
import Derived.Test.YtccnokolfjkgcaaGreatDoorRows
import Derived.Test.YtccnokolfjkgcaaGreatDoorQ01
import Derived.WalkKit
import Derived.OpenShut
import Derived.Laws.AppendOwnNone
import Derived.Deep.RegionHeld
namespace Go.Proofs.YtccnokolfjkgcaaGreatDoor
open Go.RowKit NumMath
set_option maxRecDepth 100000
set_option linter.unusedVariables false
set_option linter.unusedSimpArgs false

theorem ret_int {k : IntKind} {a b : Int} (h : a = b) : Ending.returned (.int k a) = .returned (.int k b) := by rw [h]

theorem p64 : (2 : Int) ^ 64 = 18446744073709551616 := by decide

theorem p8 : (2 : Int) ^ 8 = 256 := by decide

theorem wraps64 (n : Int) (h : 0 ≤ n) (h' : n < 2 ^ 64) : IntKind.u64.wrap n = n := by
  rw [p64] at h'
  exact IntWalk.u64_in n ⟨h, by omega⟩

/-- From address a on the cells hold the numbers zs (of an empty list nothing is asked of the address). -/
def Row (k : IntKind) (w : World) (a : Option Addr) (zs : List Int) : Prop :=
  zs = [] ∨ ∃ b off, a = some ⟨b, off, none⟩ ∧ ∀ i, i < zs.length → w.cell? ⟨b, off + i, none⟩ = some (.int k (zs.getD i 0))

theorem Row.later {k : IntKind} {w w' : World} {a : Option Addr} {zs : List Int} (h : Row k w a zs) (hb : Below w.heap.size w w') : Row k w' a zs := by
  rcases h with h | ⟨b, off, ha, hc⟩
  · exact .inl h
  · refine .inr ⟨b, off, ha, fun i hi => ?_⟩
    have := hc i hi
    rw [hb.cell (World.block_lt_of_cell? w _ this)]
    exact this

theorem Row.news {k : IntKind} {w : World} {a : Option Addr} {zs : List Int} (h : Row k w a zs) : ∀ ad, a = some ad → ∀ j u, (zs.map (Value.int k))[j]? = some u → w.cell? (ad.add j) = some u := by
  intro ad had j u hu
  have hj : j < zs.length := by simpa using (List.getElem?_eq_some_iff.1 hu).1
  rcases h with rfl | ⟨b, off, ha, hc⟩
  · simp at hj
  · rw [had] at ha
    obtain rfl := Option.some.inj ha
    rw [Addr.add_lit, hc j hj]
    rw [List.getElem?_map] at hu
    simp [hj] at hu ⊢
    exact hu

theorem Row.take {k : IntKind} {w : World} {a : Option Addr} {zs : List Int} (h : Row k w a zs) (j : Nat) : Row k w a (zs.take j) := by
  rcases h with h | ⟨b, off, ha, hcell⟩
  · left; rw [h]; simp
  · refine .inr ⟨b, off, ha, fun i hi => ?_⟩
    simp at hi
    have h1 := hcell i (by omega)
    rw [h1]
    have h2 : i < j := by omega
    simp [h2]

theorem Row.drew {k : IntKind} {w : World} {a : Option Addr} {zs : List Int} (h : Row k w a zs) : Row k w.drew a zs := by
  rcases h with h | ⟨b, off, ha, hc⟩
  · exact .inl h
  · exact .inr ⟨b, off, ha, hc⟩

/-- What stands behind the first m. -/
theorem Row.rest {w : World} {b off m c : Nat} {xs ys : List Int} (h : Row .u8 w (some ⟨b, off, none⟩) (xs ++ ys)) (hm : xs.length = m) (hc : (xs ++ ys).length ≤ c) {ao : Option Addr} (hao : ¬ c = m → ao = some ⟨b, off + m, none⟩) : Row .u8 w ao ys := by
  by_cases e : c = m
  · left
    apply List.eq_nil_of_length_eq_zero
    simp at hc; omega
  · rcases h with h | ⟨b', off', ha, hcell⟩
    · left; simp at h; exact h.2
    · have ha' : b = b' ∧ off = off' := by simpa using ha
      obtain ⟨rfl, rfl⟩ := ha'
      refine .inr ⟨b, off + m, hao e, fun i hi => ?_⟩
      have := hcell (m + i) (by simp; omega)
      rw [show off + m + i = off + (m + i) by omega, this, ← hm]
      simp [List.getElem?_append_right]

theorem Tryz.info5 : (Tryz.prog.info? 5).map (fun i => (i.zero, i.size, i.bytes)) = some (some (.int .u8 0), 1, 1) := by kernel_rfl

theorem one_new (w : World) (v : Value) (t : TypeId) : ∀ j u, [v][j]? = some u → (w.alloc (.cells #[v] t)).cell? ((⟨w.heap.size, 0, none⟩ : Addr).add j) = some u := by
  intro j u hj
  match j, hj with
  | 0, hj => simp at hj; subst hj; simp [Addr.add]

theorem one_cell (k : IntKind) (x : Int) : ∀ u ∈ [Value.int k x], u.oneCell' = true := by
  intro u hu; simp at hu; subst hu; rfl

/-- An append onto a row of the call's own, of whatever source: nil, empty or not. -/
theorem wpList_append_own_any {P : Program} {w : World} {ops : Array Oper} {rest : List Oper} {o : Oper} {a : Act} {Q : Exit → Act → World → Prop} (hgd : o.guard = none) (s x : Operand) (t : TypeId)
    (ho : o.op = .call { callee := .builtin .append, args := #[s, x], argTypes := #[t, t] })
    (base : Nat) (e : TypeId) (i : TypeInfo) (z : Value) (size bytes : Nat) (ht : P.underlying t = some (.slice e)) (hi : P.info? e = some i) (hz : i.zero = some z)
    (hsize : i.size = size) (hby : i.bytes = bytes) (hzs : z.cells.size = size) (hsz : 0 < size)
    (v : Value) (n : Nat) (xs : List Value) (hs : a.eval s = v) (hown : w.ownsRow base e size v n xs)
    (ao : Option Addr) (m c : Nat) (news : List Value) (hx : a.eval x = .slice ao m c) (hl : news.length = m * size) (hnone : ao = none → m = 0 ∧ c = 0)
    (hnews : ∀ ad, ao = some ad → ∀ j u, news[j]? = some u → w.cell? (ad.add j) = some u) (h1 : ∀ u ∈ news, u.oneCell' = true)
    (h63 : n + m ≤ maxLen) (hbytes : (n + m) * bytes ≤ 140737488355328) (hbase : base ≤ w.heap.size)
    (h : ∀ v' w', w'.ownsRow base e size v' (n + m) (xs ++ news) → w.grownBy w' v.ownBlock → wpList P ops Q rest (a.put o.dst v') w') : wpList P ops Q (o :: rest) a w := by
  cases ao with
  | some ad => exact wpList_append_own w hgd s x t ho base e i z size bytes ht hi hz hsize hby hzs hsz v n xs hs hown ad m c news hx hl (hnews ad rfl) h1 h63 hbytes hbase (fun v' w' h2 h3 _ => h v' w' h2 h3)
  | none =>
    obtain ⟨rfl, rfl⟩ := hnone rfl
    have hn0 : news = [] := List.eq_nil_of_length_eq_zero (by simpa using hl)
    subst hn0
    exact wpList_append_own_none hgd s x t ho base e i size ht hi v n xs hs hown hx (h v w (by simpa using hown) (World.grownBy.refl _ _))

section
variable {P : Program} {w : World} {ops : Array Oper} {rest : List Oper} {o : Oper} {a : Act} {Q : Exit → Act → World → Prop}

/-- An operation whose guard says yes. -/
theorem wpList_want (hg : Region.wanted o (yielded ops a.tmps) = true) (h : ∀ K : Act → World → Prop, (∀ a w, wpList P ops Q rest a w → K a w) → o.wp P a w K Q) : wpList P ops Q (o :: rest) a w :=
  wpList_step fun K hK => by rw [if_pos hg]; exact h K hK

/-- An append onto a row of the call's own, of whatever source, under a guard that says yes. -/
theorem wpList_append_own_want (hg : Region.wanted o (yielded ops a.tmps) = true) (s x : Operand) (t : TypeId)
    (ho : o.op = .call { callee := .builtin .append, args := #[s, x], argTypes := #[t, t] })
    (base : Nat) (e : TypeId) (i : TypeInfo) (z : Value) (size bytes : Nat) (ht : P.underlying t = some (.slice e)) (hi : P.info? e = some i) (hz : i.zero = some z)
    (hsize : i.size = size) (hby : i.bytes = bytes) (hzs : z.cells.size = size) (hsz : 0 < size)
    (v : Value) (n : Nat) (xs : List Value) (hs : a.eval s = v) (hown : w.ownsRow base e size v n xs)
    (ao : Option Addr) (m c : Nat) (news : List Value) (hx : a.eval x = .slice ao m c) (hl : news.length = m * size) (hnone : ao = none → m = 0 ∧ c = 0)
    (hnews : ∀ ad, ao = some ad → ∀ j u, news[j]? = some u → w.cell? (ad.add j) = some u) (h1 : ∀ u ∈ news, u.oneCell' = true)
    (h63 : n + m ≤ maxLen) (hbytes : (n + m) * bytes ≤ 140737488355328) (hbase : base ≤ w.heap.size)
    (h : ∀ v' w', w'.ownsRow base e size v' (n + m) (xs ++ news) → w.grownBy w' v.ownBlock → wpList P ops Q rest (a.put o.dst v') w') : wpList P ops Q (o :: rest) a w := by
  refine wpList_want hg fun K hK => ?_
  cases ao with
  | some ad => exact wp_append_own w s x t ho base e i z size bytes ht hi hz hsize hby hzs hsz v n xs hs hown ad m c news hx hl (hnews ad rfl) h1 h63 hbytes hbase (fun v' w' h2 h3 _ => hK _ _ (h v' w' h2 h3))
  | none =>
    obtain ⟨rfl, rfl⟩ := hnone rfl
    have hn0 : news = [] := List.eq_nil_of_length_eq_zero (by simpa using hl)
    subst hn0
    have hrun := run_append_owned_none (P := P) (w := w) base t o.type e i size ht hi v n xs hown
    unfold Oper.wp
    simp [execOp, ho, resolve, invoke, builtin, hs, hx, hrun, Result.andThen]
    exact hK _ _ (h v w (by simpa using hown) (World.grownBy.refl _ _))

end

theorem own_ge {w : World} {base : Nat} {e : TypeId} {size : Nat} {v : Value} {n : Nat} {xs : List Value} (h : w.ownsRow base e size v n xs) : ∀ k, v.ownBlock = some k → base ≤ k := fun k hk => (h.lt k hk).1

/-- A row of bytes that the call owns, as a string. -/
theorem own_string {w : World} {base n : Nat} {v : Value} {xs : List Int} (h : w.ownsRow base 5 1 v n (xs.map (Value.int .u8))) : (convert 48 9 v).run Tryz.prog w = .ok (.string (strOfNums xs)) w := by
  have hl : xs.length = n := by simpa using h.1
  rcases h.2 with ⟨rfl, h0⟩ | ⟨g, cap, cur, rfl, _, _, _⟩
  · have : xs = [] := List.eq_nil_of_length_eq_zero (by omega)
    subst this
    exact run_convert_bytes_nil w 48 5 Tryz.underlying48 Tryz.underlying5 0 0 9 Tryz.underlying9
  · refine run_convert_bytes_arg w 48 5 Tryz.underlying48 Tryz.underlying5 g 0 n cap xs hl ?_ 9 Tryz.underlying9
    intro i hi
    rw [Nat.zero_add, h.cellAt i (by omega)]
    have : i < xs.length := by omega
    simp [this]

theorem own_row {w : World} {base n cap g : Nat} {xs : List Int} (h : w.ownsRow base 5 1 (.slice (some ⟨g, 0, none⟩) n cap) n (xs.map (Value.int .u8))) (k : Nat) (hk : k ≤ n) : Row .u8 w (some ⟨g, 0, none⟩) (xs.take k) := by
  have hl : xs.length = n := by simpa using h.1
  refine .inr ⟨g, 0, rfl, fun i hi => ?_⟩
  have hi' : i < k := by simp at hi; omega
  rw [Nat.zero_add, h.cellAt i (by omega)]
  have : i < xs.length := by omega
  simp [this, hi']

theorem lit_row (w : World) (k : IntKind) (l : List Int) (t : TypeId) (g : Nat) (hg : g = w.heap.size) : Row k (w.alloc (.cells (l.map (Value.int k)).toArray t)) (some ⟨g, 0, none⟩) l := by
  refine .inr ⟨g, 0, rfl, fun i hi => ?_⟩
  rw [Nat.zero_add]
  simp [hi, hg]

/-- A slice of integers that came in: its elements are a row. -/
theorem isRow_use {k : IntKind} {w : World} {a : Option Addr} {len cap : Nat} {zs : List Int}
    (h : (a = none ∧ len = 0 ∧ cap = 0 ∧ zs = []) ∨ ∃ x, a = some x ∧ len ≤ cap ∧ cap ≤ maxLen ∧ zs.length = cap ∧ (∀ i, i < zs.length → w.cell? (x.add i) = some (.int k (zs.getD i 0))) ∧ ∀ n ∈ zs, (Lit.int k n).wf = true) :
    ∃ xs : List Int, Row k w a xs ∧ xs.length = len ∧ len ≤ cap ∧ cap ≤ maxLen ∧ (a = none → cap = 0) ∧ ∀ n ∈ xs, (Lit.int k n).wf = true := by
  rcases h with ⟨rfl, rfl, rfl, rfl⟩ | ⟨x, rfl, hl, hm, hz, hc, hwf⟩
  · exact ⟨[], .inl rfl, rfl, Nat.le_refl _, by decide, fun _ => rfl, by simp⟩
  · refine ⟨zs.take len, ?_, by simp; omega, hl, hm, fun h => (by simp at h), fun n hn => hwf n (List.mem_of_mem_take hn)⟩
    by_cases h0 : len = 0
    · left; simp [h0]
    · right
      obtain ⟨b, off, spot⟩ := x
      have h1 := hc 0 (by omega)
      have hspot : spot = none := by simpa [Addr.add] using World.cell?_spot h1
      subst hspot
      refine ⟨b, off, rfl, fun i hi => ?_⟩
      simp at hi
      have h2 := hc i (by omega)
      rw [Addr.add_lit] at h2
      rw [h2]
      have h3 : i < len := by omega
      have h4 : i < zs.length := by omega
      simp [h3, h4]

/-- What is owned is a slice of whatever shape, and a row. -/
theorem own_shape {w : World} {base n : Nat} {v : Value} {xs : List Int} (h : w.ownsRow base 5 1 v n (xs.map (Value.int .u8))) :
    ∃ a c, v = .slice a xs.length c ∧ Row .u8 w a xs ∧ xs.length ≤ c ∧ c ≤ maxLen ∧ (a = none → c = 0) := by
  have hl : xs.length = n := by simpa using h.1
  rcases h.2 with ⟨rfl, h0⟩ | ⟨g, cap, cur, rfl, _, _, hnc, hcm, _⟩
  · have : xs = [] := List.eq_nil_of_length_eq_zero (by omega)
    subst this
    exact ⟨none, 0, rfl, .inl rfl, Nat.le_refl _, by decide, fun _ => rfl⟩
  · refine ⟨some ⟨g, 0, none⟩, cap, by rw [hl], ?_, by omega, hcm, fun h => by simp at h⟩
    have := own_row h n (Nat.le_refl _)
    rwa [List.take_of_length_le (by omega)] at this

theorem u8s {zs : List Int} (hw : ∀ n ∈ zs, (Lit.int .u8 n).wf = true) : ∀ c ∈ zs, 0 ≤ c ∧ c ≤ 255 := fun c hc => bounds_u8 (hw c hc)

theorem u64s {zs : List Int} (hw : ∀ n ∈ zs, (Lit.int .u64 n).wf = true) : ∀ c ∈ zs, 0 ≤ c ∧ c ≤ 18446744073709551615 := fun c hc => bounds_u64 (hw c hc)

/-- What is owned and not empty is a slice at the head of a row. -/
theorem own_some {w : World} {base n : Nat} {v : Value} {xs : List Value} (h : w.ownsRow base 5 1 v n xs) (hn : 0 < n) : ∃ g cap, v = .slice (some ⟨g, 0, none⟩) n cap ∧ base ≤ g ∧ n ≤ cap ∧ cap ≤ maxLen := by
  rcases h.2 with ⟨rfl, h0⟩ | ⟨g, cap, cur, rfl, hb, _, hnc, hcm, _⟩
  · omega
  · exact ⟨g, cap, rfl, hb, hnc, hcm⟩

theorem bytes_take {zs : List Int} (h : ∀ c ∈ zs, 0 ≤ c ∧ c ≤ 255) (j : Nat) : ∀ c ∈ zs.take j, 0 ≤ c ∧ c ≤ 255 := fun c hc => h c (List.mem_of_mem_take hc)

theorem bytes_set {zs : List Int} (h : ∀ c ∈ zs, 0 ≤ c ∧ c ≤ 255) (j : Nat) {x : Int} (hx : 0 ≤ x ∧ x ≤ 255) : ∀ c ∈ zs.set j x, 0 ≤ c ∧ c ≤ 255 := by
  intro c hc
  rcases List.mem_or_eq_of_mem_set hc with h1 | h1
  · exact h c h1
  · rw [h1]; exact hx

theorem bytes_append {xs ys : List Int} (h : ∀ c ∈ xs, 0 ≤ c ∧ c ≤ 255) (h' : ∀ c ∈ ys, 0 ≤ c ∧ c ≤ 255) : ∀ c ∈ xs ++ ys, 0 ≤ c ∧ c ≤ 255 := by
  intro c hc
  rcases List.mem_append.1 hc with h1 | h1
  · exact h c h1
  · exact h' c h1

theorem own_kept {w w2 : World} {b e s g n c : Nat} {row : Option Nat} {xs : List Value} (h : w.ownsRow b e s (.slice (some ⟨g, 0, none⟩) n c) n xs) (hg : w.grownBy w2 row) (hr : ∀ k, row = some k → k ≠ g) : w2.ownsRow b e s (.slice (some ⟨g, 0, none⟩) n c) n xs := by
  refine h.kept hg ?_
  cases row with
  | none => right; simp [Value.ownBlock]
  | some k => right; have := hr k rfl; simp [Value.ownBlock]; omega

theorem own_base {w : World} {b e s g n c : Nat} {xs : List Value} (h : w.ownsRow b e s (.slice (some ⟨g, 0, none⟩) n c) n xs) : b ≤ w.heap.size := by
  have := h.lt g rfl; omega

theorem mod_nat (x : Int) (k : Nat) (hk : 0 < k) : ∃ t : Nat, t < k ∧ x % (k : Int) = (t : Int) := by
  have h1 := Int.emod_lt_of_pos x (show (0 : Int) < (k : Int) by omega)
  have h2 := Int.emod_nonneg x (show (k : Int) ≠ 0 by omega)
  exact ⟨(x % (k : Int)).toNat, by omega, by omega⟩

/-- A row of bytes as a string. -/
theorem row_string {w : World} {a : Option Addr} {zs : List Int} {cap : Nat} (h : Row .u8 w a zs) : (convert 48 9 (.slice a zs.length cap)).run Tryz.prog w = .ok (.string (strOfNums zs)) w := by
  rcases h with rfl | ⟨b, off, rfl, hc⟩
  · cases a with
    | none => exact run_convert_bytes_nil w 48 5 Tryz.underlying48 Tryz.underlying5 0 cap 9 Tryz.underlying9
    | some x =>
      rw [run_convert_bytes_string w 48 9 5 _ _ cap Tryz.underlying48 Tryz.underlying5 Tryz.underlying9]
      exact run_bytesToString w x 0 cap [] (by simp [loadCells, loadCellsFrom])
  · exact run_convert_bytes_arg w 48 5 Tryz.underlying48 Tryz.underlying5 b off zs.length cap zs rfl hc 9 Tryz.underlying9

theorem cell_later {w W : World} {p : Addr} {v : Value} (h : w.cell? p = some v) (hb : Below w.heap.size w W) : W.cell? p = some v := (hb.cell (World.block_lt_of_cell? w _ h)).trans h

/-- A condition may be made stronger on the way. -/
theorem wpAnyH_weaken {P : Program} {ops : Array Oper} {Q : Exit → Act → World → Prop} {md : Region.Mode} {S S2 : World → Prop} (hs : ∀ w, S2 w → S w) :
    ∀ (fuel : Nat) (listed : Array Bool) (a : Act) (w : World), wpAnyH P md ops Q S2 fuel listed a w → wpAnyH P md ops Q S fuel listed a w
  | 0, _, _, _, h => h
  | fuel + 1, _, _, _, h => ⟨h.1, fun i hi => wpOp_mono (fun a' w' h' => ⟨hs _ h'.1, wpAnyH_weaken hs fuel _ a' w' h'.2⟩) (h.2 i hi)⟩

end Go.Proofs.YtccnokolfjkgcaaGreatDoor
namespace Go.Proofs.YtccnokolfjkgcaaGreatDoor
open Go.RowKit NumMath
set_option maxRecDepth 100000
set_option linter.unusedVariables false
set_option linter.unusedSimpArgs false

/-- Bytes as natural numbers. -/
def nats (zs : List Int) : List Nat := zs.map Int.toNat

theorem nats_byte {zs : List Int} (h : ∀ c ∈ zs, 0 ≤ c ∧ c ≤ 255) : ∀ c ∈ nats zs, c < 256 := by
  intro c hc
  obtain ⟨x, hx, rfl⟩ := List.mem_map.1 hc
  have := h x hx; omega
theorem nats_append (a b : List Int) : nats (a ++ b) = nats a ++ nats b := List.map_append
theorem nats_step (zs : List Int) (k : Nat) (h : k < zs.length) : nats (zs.drop k) = (zs[k]?.getD 0).toNat :: nats (zs.drop (k + 1)) := by
  rw [List.drop_eq_getElem_cons h]
  show zs[k].toNat :: _ = _
  rw [show zs[k]?.getD 0 = zs[k] by simp [h]]
  rfl
theorem not32 {s : Nat} (h : s < 4294967296) : bits .xor .u32 IntKind.u32.max (s : Int) = ((s ^^^ CrcMath.ones : Nat) : Int) := by
  have := u32_xor_nat CrcMath.ones s (by decide) h
  rw [Nat.xor_comm s]
  exact this
theorem xor32 {s : Nat} {c : Int} (h : s < 4294967296) (h0 : 0 ≤ c) (h1 : c ≤ 255) : bits .xor .u32 (s : Int) c = ((s ^^^ c.toNat : Nat) : Int) := by
  obtain ⟨d, rfl⟩ := Int.eq_ofNat_of_zero_le h0
  rw [Int.toNat_natCast]
  exact u32_xor_nat s d h (by omega)
theorem and1 {s : Nat} (h : s < 4294967296) : bits .and .u32 (s : Int) 1 = ((s % 2 : Nat) : Int) := by
  have := u32_and_nat s 1 h (by decide)
  rw [Nat.and_one_is_mod] at this
  exact this
theorem xorPoly {s : Nat} (h : s < 4294967296) : bits .xor .u32 ((s : Int) / 2) 3988292384 = ((s / 2 ^^^ CrcMath.poly : Nat) : Int) := by
  have := u32_xor_nat (s / 2) CrcMath.poly (by omega) (by decide)
  exact this

/-- A part: a slice of bytes, its address, its bytes, its room. -/
structure Part where
  a : Option Addr
  zs : List Int
  cap : Nat

def Part.val (p : Part) : Value := .slice p.a p.zs.length p.cap
/-- A part that lies in memory. -/
def Part.ok (w : World) (p : Part) : Prop := Row .u8 w p.a p.zs ∧ (∀ c ∈ p.zs, 0 ≤ c ∧ c ≤ 255) ∧ p.zs.length ≤ p.cap ∧ p.cap ≤ maxLen
def noPart : Part := ⟨none, [], 0⟩
/-- From address a on the cells hold the parts ps, each of which lies in memory. -/
def Parts (w : World) (a : Option Addr) (ps : List Part) : Prop :=
  (ps = [] ∨ ∃ b off, a = some ⟨b, off, none⟩ ∧ ∀ i, i < ps.length → w.cell? ⟨b, off + i, none⟩ = some (ps[i]?.getD noPart).val) ∧ ∀ p ∈ ps, p.ok w
/-- All bytes of some parts. -/
def allB (ps : List Part) : List Int := ps.flatMap Part.zs

theorem part_ok {w : World} {a : Option Addr} {zs : List Int} {cap : Nat} (hr : Row .u8 w a zs) (hb : ∀ c ∈ zs, 0 ≤ c ∧ c ≤ 255) (hc : zs.length ≤ cap) (hm : cap ≤ maxLen) : (Part.mk a zs cap).ok w := ⟨hr, hb, hc, hm⟩
theorem Part.ok.later {w w' : World} {p : Part} (h : p.ok w) (hb : Below w.heap.size w w') : p.ok w' := ⟨h.1.later hb, h.2⟩
theorem Parts.later {w w' : World} {a : Option Addr} {ps : List Part} (h : Parts w a ps) (hb : Below w.heap.size w w') : Parts w' a ps := by
  refine ⟨?_, fun p hp => (h.2 p hp).later hb⟩
  rcases h.1 with h | ⟨b, off, ha, hc⟩
  · exact .inl h
  · refine .inr ⟨b, off, ha, fun i hi => ?_⟩
    have := hc i hi
    rw [hb.cell (World.block_lt_of_cell? w _ this)]
    exact this
theorem lit_parts (w : World) (ps : List Part) (t : TypeId) (g : Nat) (hg : g = w.heap.size) (h : ∀ p ∈ ps, p.ok w) : Parts (w.alloc (.cells (ps.map Part.val).toArray t)) (some ⟨g, 0, none⟩) ps := by
  refine ⟨.inr ⟨g, 0, rfl, fun i hi => ?_⟩, fun p hp => (h p hp).later ((Below.refl _ _).alloc (Nat.le_refl _) _)⟩
  rw [Nat.zero_add]
  simp [hi, hg]
theorem part_mem (ps : List Part) (k : Nat) (h : k < ps.length) : ps[k]?.getD noPart ∈ ps := by simp [h]
theorem parts_snoc (ps : List Part) (k : Nat) (h : k < ps.length) : allB (ps.take (k + 1)) = allB (ps.take k) ++ (ps[k]?.getD noPart).zs := by
  unfold allB
  rw [List.take_succ_eq_append_getElem h, List.flatMap_append]
  simp [h]
theorem allB_byte {w : World} {ps : List Part} (h : ∀ p ∈ ps, p.ok w) : ∀ c ∈ allB ps, 0 ≤ c ∧ c ≤ 255 := by
  intro c hc
  obtain ⟨p, hp, hcp⟩ := List.mem_flatMap.1 hc
  exact (h p hp).2.1 c hcp

end Go.Proofs.YtccnokolfjkgcaaGreatDoor
namespace Go.Proofs.YtccnokolfjkgcaaGreatDoor
open Go.RowKit NumMath
set_option maxRecDepth 100000
set_option linter.unusedVariables false
set_option linter.unusedSimpArgs false

theorem lastFits_any (c : Int) (i : Nat) (w : World) (h0 : 0 ≤ c) (h1 : c ≤ 255) (hi : i ≤ 10) :
    Calls Tryz.prog 73 #[.int .u8 c, .int .i64 (i : Int)] w fun e w' => e = .returned (.bool (fits c i)) ∧ w' = w := by
  by_cases hc : c = 0
  · subst hc
    by_cases hi0 : i = 0
    · subst hi0
      go_enter Tryz.func73, Tryz.ntmps73
      go_wp2
      go_ret
      exact ⟨rfl, rfl⟩
    · have hb : ((i : Int) == 0) = false := by simp; omega
      go_enter Tryz.func73, Tryz.ntmps73
      go_wp2
      go_ret
      exact ⟨by simp [fits, hi0], rfl⟩
  · have hb : (c == 0) = false := by simp [hc]
    by_cases hi9 : i < 9
    · have hd : decide ((i : Int) < 9) = true := by simp; omega
      go_enter Tryz.func73, Tryz.ntmps73
      go_wp2
      go_ret
      exact ⟨by simp [fits, hc, hi9], rfl⟩
    · have hd : decide ((i : Int) < 9) = false := by simp; omega
      go_enter Tryz.func73, Tryz.ntmps73
      go_wp2
      go_ret
      exact ⟨by simp [fits, hc, hi9], rfl⟩

end Go.Proofs.YtccnokolfjkgcaaGreatDoor
namespace Go.Proofs.YtccnokolfjkgcaaGreatDoor
open Go.RowKit NumMath
set_option maxRecDepth 100000
set_option linter.unusedVariables false
set_option linter.unusedSimpArgs false

/-- The three results of Take, as one value. -/
def takV (t : Int × Int × Int) : Value := .tuple #[.int .u64 t.1, .int .i64 t.2.1, .int .i64 t.2.2]

theorem two7 (k : Nat) : (2 : Int) ^ (7 * k) = 128 ^ k := by rw [Int.pow_mul]; rfl

theorem or_low {V H : Int} (k : Nat) (hV0 : 0 ≤ V) (hV : V < 128 ^ k) (d : Int) (hH : H = d * 128 ^ k) (hd : 0 ≤ d) (hH1 : H ≤ 18446744073709551615) (hV1 : V ≤ 18446744073709551615) : bits .or .u64 V H = V + H := by
  have hpos : (0 : Int) ≤ 128 ^ k := Int.pow_nonneg (by omega)
  have hH0 : 0 ≤ H := by rw [hH]; exact Int.mul_nonneg hd hpos
  have hc : bits .or .u64 V H = bits .or .u64 H V := by
    rw [u64_or V H hV0 (by omega) hH0 (by omega), u64_or H V hH0 (by omega) hV0 (by omega), Nat.or_comm]
  rw [hc, bits_join .u64 64 (by decide) wraps64 (7 * k) H V hH0 ?_ ?_ hV0 ?_ ?_]
  · omega
  · rw [two7, hH]; exact Int.mul_emod_left d (128 ^ k)
  · rw [p64]; omega
  · rw [two7]; exact hV
  · rw [p64]; omega

/-- One digit more, at place k. -/
theorem take_step {zs : List Int} {k : Nat} (hk : k < zs.length) (h9 : k < 9 ∨ zs[k]?.getD 0 ≤ 1 ∧ 0 ≤ zs[k]?.getD 0 ∧ k = 9) :
    bits .or .u64 (lowL (zs.take k)) (IntKind.u64.wrap (zs[k]?.getD 0 % 128 * 2 ^ (7 * k))) = lowL (zs.take (k + 1)) := by
  have hb := lowL_bd (zs.take k)
  have hl : (zs.take k).length = k := by simp; omega
  rw [hl] at hb
  rw [take_snoc zs k hk, lowL_snoc, hl, two7]
  have hp : (0 : Int) < 128 ^ k := Int.pow_pos (by omega)
  have hp9 : (128 : Int) ^ k ≤ 128 ^ 9 := by
    have := Nat.pow_le_pow_right (show 0 < 128 by omega) (show k ≤ 9 by omega)
    have h4 : ((128 : Nat) : Int) ^ k ≤ ((128 : Nat) : Int) ^ 9 := by
      rw [← Int.natCast_pow, ← Int.natCast_pow]; exact Int.ofNat_le.2 this
    exact h4
  have h5 : (128 : Int) ^ 9 = 9223372036854775808 := by decide
  have hH : 0 ≤ zs[k]?.getD 0 % 128 * 128 ^ k ∧ zs[k]?.getD 0 % 128 * 128 ^ k ≤ 18446744073709551615 := by
    refine ⟨Int.mul_nonneg (by omega) (by omega), ?_⟩
    rcases h9 with h | ⟨h1, h2, rfl⟩
    · have hp8 : (128 : Int) ^ k ≤ 128 ^ 8 := by
        have := Nat.pow_le_pow_right (show 0 < 128 by omega) (show k ≤ 8 by omega)
        have h4 : ((128 : Nat) : Int) ^ k ≤ ((128 : Nat) : Int) ^ 8 := by
          rw [← Int.natCast_pow, ← Int.natCast_pow]; exact Int.ofNat_le.2 this
        exact h4
      have h6 : (128 : Int) ^ 8 = 72057594037927936 := by decide
      have h7 : zs[k]?.getD 0 % 128 * 128 ^ k ≤ 127 * 128 ^ k := Int.mul_le_mul_of_nonneg_right (by omega) (by omega)
      omega
    · rw [h5]; omega
  rw [IntWalk.u64_in _ hH]
  exact or_low k hb.1 hb.2 _ rfl (by omega) hH.2 (by omega)

theorem take_any (a : Option Addr) (zs : List Int) (cap : Nat) (w : World) (hr : Row .u8 w a zs) (hb : ∀ c ∈ zs, 0 ≤ c ∧ c ≤ 255) (hc : zs.length ≤ cap) (hm : cap ≤ maxLen) :
    Calls Tryz.prog 45 #[.slice a zs.length cap] w fun e w' => e = .returned (takV (tak zs)) ∧ w' = w := by
  unfold maxLen at hm
  rcases hr with rfl | ⟨b, off, rfl, hcell⟩
  · go_enter Tryz.func45, Tryz.ntmps45
    go_wp2
    refine wp_loop_rounds 1 ?_
    rw [rounds_succ]
    go_wp2
    go_ret3
    exact ⟨rfl, rfl⟩
  · obtain ⟨n, hn⟩ : ∃ n, n = zs.length := ⟨_, rfl⟩
    rw [← hn] at hc hcell ⊢
    have HN : Hid (n = zs.length) := hn
    clear hn
    by_cases h8 : n ≤ 10
    all_goals
      go_enter Tryz.func45, Tryz.ntmps45
      go_wp2
      go_loop [5, 14] (fun v i => ∃ (k : Nat) (V : Int), k ≤ 10 ∧ k ≤ n ∧ i = .int .i64 k ∧ v = .int .u64 V ∧ 0 ≤ V ∧ V ≤ 18446744073709551615 ∧ (k ≤ 9 → V = lowL (zs.take k)) ∧ (∀ j, j < k → 128 ≤ zs[j]?.getD 0)) (fun _ i => 10 - (intOf i).toNat)
      case atStart => exact ⟨0, 0, by omega, by omega, rfl, rfl, by omega, by omega, fun _ => rfl, fun j hj => by omega⟩
      case round =>
        obtain ⟨k, V, hk8, hkn, rfl, rfl, hV0, hV1, hV, hall⟩ := hrel
        have hn := HN.out
        by_cases hlt : k < n ∧ k < 10
        · obtain ⟨hlt1, hlt2⟩ := hlt
          obtain ⟨c, hcc⟩ : ∃ c, c = zs[k]?.getD 0 := ⟨_, rfl⟩
          have hcx : w.cell? ⟨b, off + k, none⟩ = some (.int .u8 c) := by rw [hcc]; simpa using hcell k hlt1
          have hz : 0 ≤ c ∧ c ≤ 255 := by rw [hcc]; exact hb _ (mem_getD zs k (by omega))
          have HC : Hid (c = zs[k]?.getD 0) := hcc
          have HV : Hid (V = lowL (zs.take k)) := hV (by omega)
          have HA : Hid (∀ j, j < k → 128 ≤ zs[j]?.getD 0) := hall
          clear hcell hcc hn hV hall
          go_wp2_with (go_at_call 73; refine (lastFits_any _ _ _ (by omega) (by omega) (by omega)).mono ?_; rintro e w' ⟨rfl, rfl⟩)
          · have h128 : 128 ≤ c := by assumption
            go_round
            case rel =>
              refine ⟨k + 1, _, by omega, by omega, by go_num, rfl, bits_lo_u64 _ _ _, bits_hi_u64 _ _ _, fun h => ?_, fun j hj => ?_⟩
              · rw [HV.out, HC.out]
                exact take_step (by have := HN.out; omega) (.inl (by omega))
              · by_cases e : j = k
                · subst e; rw [← HC.out]; exact h128
                · exact HA.out j (by omega)
            case measure => simp [intOf]; omega
          · have h128 : c < 128 := by assumption
            have hf : (!fits c k) = true := by assumption
            have ht := tak_last HA.out (by have := HN.out; omega) hlt2 (by rw [← HC.out]; exact h128)
            rw [← HC.out] at ht
            rw [if_neg (by simpa using hf)] at ht
            go_ret3
            exact ⟨by rw [ht]; rfl, rfl⟩
          · have h128 : c < 128 := by assumption
            have hf : (!fits c k) = false := by assumption
            have hf' : fits c k = true := by simpa using hf
            have hkz : k < zs.length := by have := HN.out; omega
            have ht := tak_last HA.out hkz hlt2 (by rw [← HC.out]; exact h128)
            rw [← HC.out, if_pos hf'] at ht
            have hs : bits .or .u64 V (IntKind.u64.wrap (c % 128 * 2 ^ (7 * k))) = lowL (zs.take (k + 1)) := by
              rw [HV.out, HC.out]
              refine take_step hkz ?_
              by_cases h9 : k < 9
              · exact .inl h9
              · refine .inr ⟨?_, ?_, by omega⟩
                · rw [← HC.out]
                  unfold fits at hf'
                  split at hf'
                  · omega
                  · simp only [h9, decide_false, Bool.false_or, decide_eq_true_eq] at hf'; exact hf'
                · rw [← HC.out]; omega
            go_ret3
            exact ⟨by rw [ht, ← hs]; rfl, rfl⟩
        · by_cases h10 : n < 10
          · have ht := tak_short (zs := zs) (k := k) hall (by omega) (by omega)
            have HT : Hid (tak zs = (0, 0, 20)) := ht
            clear ht hn hV hall hcell
            first
              | (exfalso; omega)
              | (go_wp2; go_ret3; exact ⟨by rw [HT.out]; rfl, rfl⟩)
          · have hk10 : k = 10 := by omega
            subst hk10
            have ht := tak_ten (zs := zs) hall (by omega)
            have HT : Hid (tak zs = (0, 0, 21)) := ht
            clear ht hn hV hall hcell
            go_wp2
            go_ret3
            exact ⟨by rw [HT.out]; rfl, rfl⟩

end Go.Proofs.YtccnokolfjkgcaaGreatDoor
namespace Go.Proofs.YtccnokolfjkgcaaGreatDoor
open Go.RowKit NumMath
set_option maxRecDepth 100000
set_option linter.unusedVariables false
set_option linter.unusedSimpArgs false

/-- How many bytes are asked for: n held to 0 to 8. -/
def held (n : Int) : Nat := (min (max n 0) 8).toNat

theorem held_cases (n : Int) : (n < 0 ∧ held n = 0) ∨ (8 < n ∧ held n = 8) ∨ (n = (held n : Int) ∧ held n ≤ 8) := by
  unfold held; omega

theorem rep_set (c : Nat) (S : List Int) (x : Int) : (List.replicate (c + 1) (0 : Int) ++ S).set c x = List.replicate c 0 ++ (x :: S) := by
  rw [List.replicate_succ', List.append_assoc, List.set_append]
  simp

end Go.Proofs.YtccnokolfjkgcaaGreatDoor
namespace Go.Proofs.YtccnokolfjkgcaaGreatDoor
open Go.RowKit NumMath
set_option maxRecDepth 100000
set_option linter.unusedVariables false
set_option linter.unusedSimpArgs false

theorem two8 (k : Nat) : (2 : Int) ^ (8 * k) = 256 ^ k := by rw [Int.pow_mul]; rfl

theorem refFixed_any (v n : Int) (w : World) (h0 : 0 ≤ v) (h1 : v ≤ 18446744073709551615) (hn0 : -9223372036854775808 ≤ n) (hn1 : n ≤ 9223372036854775807) :
    Calls Tryz.prog 71 #[.int .u64 v, .int .i64 n] w fun e w' => ∃ r, e = .returned r ∧
      w'.ownsRow w.heap.size 5 1 r (held n) ((fixL (held n) v).map (Value.int .u8)) ∧ Below w.heap.size w w' := by
  obtain ⟨i0, hi, hz0, hz1, hz2⟩ := info_parts Tryz.info5
  have hcs := held_cases n
  generalize held n = m at *
  have hm8 : m ≤ 8 := by omega
  have hdecide : (n < 0 ∧ m ≤ 0) ∨ (8 < n ∧ 8 ≤ m) ∨ (n = (m : Int)) := by omega
  clear hcs
  rcases hdecide with ⟨hn, hm⟩ | ⟨hn, hm⟩ | rfl
  all_goals
    go_enter Tryz.func71, Tryz.ntmps71
    go_wp2
    go_loopw [5, 6] (fun out i wr => ∃ (c : Nat) (R : List Int), c ≤ m ∧ i = .int .i64 ((c : Int) - 1) ∧ R ++ fixL c v = fixL m v ∧
        wr.ownsRow w.heap.size 5 1 out R.length (R.map (Value.int .u8)) ∧ Below w.heap.size w wr) (fun _ i _ => (intOf i + 1).toNat)
    case atStart => exact ⟨m, [], by omega, by first | rfl | go_num, by simp, World.ownsRow_nil _ _ _ _, Below.refl _ _⟩
    case round =>
      obtain ⟨c, R, hc, rfl, hR, hown, hnx⟩ := hrel
      have hRl : R.length + c = m := by have := congrArg List.length hR; simpa [fixL_len] using this
      have hRl' : R.length ≤ 8 := by omega
      have HRL : Hid (R.length + c = m) := hRl
      have HR : Hid (R ++ fixL c v = fixL m v) := hR
      have hsz := hnx.size
      clear hR hRl
      by_cases hc0 : 1 ≤ c
      · obtain ⟨q, rfl⟩ : ∃ q, c = q + 1 := ⟨c - 1, by omega⟩
        have h2 := two8 q
        clear hc0
        first
          | (exfalso; omega)
          | (go_wp2_with (at_builtin; refine wpList_append_own _ rfl (.tmp 15) (.tmp 21) 48 rfl w.heap.size 5 i0 (.int .u8 0) 1 1 Tryz.underlying48 hi hz0 hz1 hz2 rfl (by decide) _ R.length _ rfl (hown.alloc _) ⟨wr.heap.size, 0, none⟩ 1 1 [.int .u8 (v / 256 ^ q % 256)] rfl rfl (one_new _ _ _) (one_cell _ _) (by unfold maxLen; omega) (by omega) (by simp; omega) ?_; intro v2 w2 hown2 hgrow2 _)
             have hb2 : Below w.heap.size w w2 := (hnx.alloc hnx.size _).grown hgrow2 (by simp; omega) (own_ge hown)
             clear hgrow2 hown
             go_roundw
             case rel => exact ⟨q, R ++ [v / 256 ^ q % 256], by omega, by go_num, by rw [← HR.out, fixL_head]; simp, by simpa using hown2, hb2⟩
             case measure => simp [intOf])
      · obtain rfl : c = 0 := by omega
        go_wp2
        go_ret
        have e := HR.out
        simp only [fixL, List.append_nil] at e
        have e2 := HRL.out
        simp only [Nat.add_zero] at e2
        rw [e, ← e, e2] at hown
        exact ⟨_, rfl, by rw [← e]; exact hown, hnx⟩

end Go.Proofs.YtccnokolfjkgcaaGreatDoor

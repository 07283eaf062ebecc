/-
  Kit, CrcKit, RegInv, RegInvN, FnSize, FnPut.
-/
import Derived.Test.YteockpllnhjooaaGreatDoorRows
import Derived.Test.YteockpllnhjooaaGreatDoorQL01
import Derived.WalkKit
import Derived.OpenShut
import Derived.Laws.AppendOwnNone
import Derived.Deep.RegionHeld
namespace Go.Proofs.YteockpllnhjooaaGreatDoor
open Go.RowKit NumMath
set_option maxRecDepth 100000
set_option linter.unusedVariables false
set_option linter.unusedSimpArgs false

theorem ret_int {k : IntKind} {a b : Int} (h : a = b) : Ending.returned (.int k a) = .returned (.int k b) := by rw [h]

theorem p64 : (2 : Int) ^ 64 = 18446744073709551616 := by decide

theorem p8 : (2 : Int) ^ 8 = 256 := by decide

theorem wraps64 (n : Int) (h : 0 ≤ n) (h' : n < 2 ^ 64) : IntKind.u64.wrap n = n := by
  rw [p64] at h'
  exact IntWalk.u64_in n ⟨h, by omega⟩

/-- From address a on the cells hold the numbers zs (of an empty list nothing is asked of the address). -/
def Row (k : IntKind) (w : World) (a : Option Addr) (zs : List Int) : Prop :=
  zs = [] ∨ ∃ b off, a = some ⟨b, off, none⟩ ∧ ∀ i, i < zs.length → w.cell? ⟨b, off + i, none⟩ = some (.int k (zs.getD i 0))

theorem Row.later {k : IntKind} {w w' : World} {a : Option Addr} {zs : List Int} (h : Row k w a zs) (hb : Below w.heap.size w w') : Row k w' a zs := by
  rcases h with h | ⟨b, off, ha, hc⟩
  · exact .inl h
  · refine .inr ⟨b, off, ha, fun i hi => ?_⟩
    have := hc i hi
    rw [hb.cell (World.block_lt_of_cell? w _ this)]
    exact this

theorem Row.news {k : IntKind} {w : World} {a : Option Addr} {zs : List Int} (h : Row k w a zs) : ∀ ad, a = some ad → ∀ j u, (zs.map (Value.int k))[j]? = some u → w.cell? (ad.add j) = some u := by
  intro ad had j u hu
  have hj : j < zs.length := by simpa using (List.getElem?_eq_some_iff.1 hu).1
  rcases h with rfl | ⟨b, off, ha, hc⟩
  · simp at hj
  · rw [had] at ha
    obtain rfl := Option.some.inj ha
    rw [Addr.add_lit, hc j hj]
    rw [List.getElem?_map] at hu
    simp [hj] at hu ⊢
    exact hu

theorem Row.take {k : IntKind} {w : World} {a : Option Addr} {zs : List Int} (h : Row k w a zs) (j : Nat) : Row k w a (zs.take j) := by
  rcases h with h | ⟨b, off, ha, hcell⟩
  · left; rw [h]; simp
  · refine .inr ⟨b, off, ha, fun i hi => ?_⟩
    simp at hi
    have h1 := hcell i (by omega)
    rw [h1]
    have h2 : i < j := by omega
    simp [h2]

theorem Row.drew {k : IntKind} {w : World} {a : Option Addr} {zs : List Int} (h : Row k w a zs) : Row k w.drew a zs := by
  rcases h with h | ⟨b, off, ha, hc⟩
  · exact .inl h
  · exact .inr ⟨b, off, ha, hc⟩

/-- What stands behind the first m. -/
theorem Row.rest {w : World} {b off m c : Nat} {xs ys : List Int} (h : Row .u8 w (some ⟨b, off, none⟩) (xs ++ ys)) (hm : xs.length = m) (hc : (xs ++ ys).length ≤ c) {ao : Option Addr} (hao : ¬ c = m → ao = some ⟨b, off + m, none⟩) : Row .u8 w ao ys := by
  by_cases e : c = m
  · left
    apply List.eq_nil_of_length_eq_zero
    simp at hc; omega
  · rcases h with h | ⟨b', off', ha, hcell⟩
    · left; simp at h; exact h.2
    · have ha' : b = b' ∧ off = off' := by simpa using ha
      obtain ⟨rfl, rfl⟩ := ha'
      refine .inr ⟨b, off + m, hao e, fun i hi => ?_⟩
      have := hcell (m + i) (by simp; omega)
      rw [show off + m + i = off + (m + i) by omega, this, ← hm]
      simp [List.getElem?_append_right]

theorem Tryz.info5 : (Tryz.prog.info? 5).map (fun i => (i.zero, i.size, i.bytes)) = some (some (.int .u8 0), 1, 1) := by kernel_rfl

theorem one_new (w : World) (v : Value) (t : TypeId) : ∀ j u, [v][j]? = some u → (w.alloc (.cells #[v] t)).cell? ((⟨w.heap.size, 0, none⟩ : Addr).add j) = some u := by
  intro j u hj
  match j, hj with
  | 0, hj => simp at hj; subst hj; simp [Addr.add]

theorem one_cell (k : IntKind) (x : Int) : ∀ u ∈ [Value.int k x], u.oneCell' = true := by
  intro u hu; simp at hu; subst hu; rfl

/-- An append onto a row of the call's own, of whatever source: nil, empty or not. -/
theorem wpList_append_own_any {P : Program} {w : World} {ops : Array Oper} {rest : List Oper} {o : Oper} {a : Act} {Q : Exit → Act → World → Prop} (hgd : o.guard = none) (s x : Operand) (t : TypeId)
    (ho : o.op = .call { callee := .builtin .append, args := #[s, x], argTypes := #[t, t] })
    (base : Nat) (e : TypeId) (i : TypeInfo) (z : Value) (size bytes : Nat) (ht : P.underlying t = some (.slice e)) (hi : P.info? e = some i) (hz : i.zero = some z)
    (hsize : i.size = size) (hby : i.bytes = bytes) (hzs : z.cells.size = size) (hsz : 0 < size)
    (v : Value) (n : Nat) (xs : List Value) (hs : a.eval s = v) (hown : w.ownsRow base e size v n xs)
    (ao : Option Addr) (m c : Nat) (news : List Value) (hx : a.eval x = .slice ao m c) (hl : news.length = m * size) (hnone : ao = none → m = 0 ∧ c = 0)
    (hnews : ∀ ad, ao = some ad → ∀ j u, news[j]? = some u → w.cell? (ad.add j) = some u) (h1 : ∀ u ∈ news, u.oneCell' = true)
    (h63 : n + m ≤ maxLen) (hbytes : (n + m) * bytes ≤ 140737488355328) (hbase : base ≤ w.heap.size)
    (h : ∀ v' w', w'.ownsRow base e size v' (n + m) (xs ++ news) → w.grownBy w' v.ownBlock → wpList P ops Q rest (a.put o.dst v') w') : wpList P ops Q (o :: rest) a w := by
  cases ao with
  | some ad => exact wpList_append_own w hgd s x t ho base e i z size bytes ht hi hz hsize hby hzs hsz v n xs hs hown ad m c news hx hl (hnews ad rfl) h1 h63 hbytes hbase (fun v' w' h2 h3 _ => h v' w' h2 h3)
  | none =>
    obtain ⟨rfl, rfl⟩ := hnone rfl
    have hn0 : news = [] := List.eq_nil_of_length_eq_zero (by simpa using hl)
    subst hn0
    exact wpList_append_own_none hgd s x t ho base e i size ht hi v n xs hs hown hx (h v w (by simpa using hown) (World.grownBy.refl _ _))

section
variable {P : Program} {w : World} {ops : Array Oper} {rest : List Oper} {o : Oper} {a : Act} {Q : Exit → Act → World → Prop}

/-- An operation whose guard says yes. -/
theorem wpList_want (hg : Region.wanted o (yielded ops a.tmps) = true) (h : ∀ K : Act → World → Prop, (∀ a w, wpList P ops Q rest a w → K a w) → o.wp P a w K Q) : wpList P ops Q (o :: rest) a w :=
  wpList_step fun K hK => by rw [if_pos hg]; exact h K hK

/-- An append onto a row of the call's own, of whatever source, under a guard that says yes. -/
theorem wpList_append_own_want (hg : Region.wanted o (yielded ops a.tmps) = true) (s x : Operand) (t : TypeId)
    (ho : o.op = .call { callee := .builtin .append, args := #[s, x], argTypes := #[t, t] })
    (base : Nat) (e : TypeId) (i : TypeInfo) (z : Value) (size bytes : Nat) (ht : P.underlying t = some (.slice e)) (hi : P.info? e = some i) (hz : i.zero = some z)
    (hsize : i.size = size) (hby : i.bytes = bytes) (hzs : z.cells.size = size) (hsz : 0 < size)
    (v : Value) (n : Nat) (xs : List Value) (hs : a.eval s = v) (hown : w.ownsRow base e size v n xs)
    (ao : Option Addr) (m c : Nat) (news : List Value) (hx : a.eval x = .slice ao m c) (hl : news.length = m * size) (hnone : ao = none → m = 0 ∧ c = 0)
    (hnews : ∀ ad, ao = some ad → ∀ j u, news[j]? = some u → w.cell? (ad.add j) = some u) (h1 : ∀ u ∈ news, u.oneCell' = true)
    (h63 : n + m ≤ maxLen) (hbytes : (n + m) * bytes ≤ 140737488355328) (hbase : base ≤ w.heap.size)
    (h : ∀ v' w', w'.ownsRow base e size v' (n + m) (xs ++ news) → w.grownBy w' v.ownBlock → wpList P ops Q rest (a.put o.dst v') w') : wpList P ops Q (o :: rest) a w := by
  refine wpList_want hg fun K hK => ?_
  cases ao with
  | some ad => exact wp_append_own w s x t ho base e i z size bytes ht hi hz hsize hby hzs hsz v n xs hs hown ad m c news hx hl (hnews ad rfl) h1 h63 hbytes hbase (fun v' w' h2 h3 _ => hK _ _ (h v' w' h2 h3))
  | none =>
    obtain ⟨rfl, rfl⟩ := hnone rfl
    have hn0 : news = [] := List.eq_nil_of_length_eq_zero (by simpa using hl)
    subst hn0
    have hrun := run_append_owned_none (P := P) (w := w) base t o.type e i size ht hi v n xs hown
    unfold Oper.wp
    simp [execOp, ho, resolve, invoke, builtin, hs, hx, hrun, Result.andThen]
    exact hK _ _ (h v w (by simpa using hown) (World.grownBy.refl _ _))

end

theorem own_ge {w : World} {base : Nat} {e : TypeId} {size : Nat} {v : Value} {n : Nat} {xs : List Value} (h : w.ownsRow base e size v n xs) : ∀ k, v.ownBlock = some k → base ≤ k := fun k hk => (h.lt k hk).1

/-- A row of bytes that the call owns, as a string. -/
theorem own_string {w : World} {base n : Nat} {v : Value} {xs : List Int} (h : w.ownsRow base 5 1 v n (xs.map (Value.int .u8))) : (convert 48 9 v).run Tryz.prog w = .ok (.string (strOfNums xs)) w := by
  have hl : xs.length = n := by simpa using h.1
  rcases h.2 with ⟨rfl, h0⟩ | ⟨g, cap, cur, rfl, _, _, _⟩
  · have : xs = [] := List.eq_nil_of_length_eq_zero (by omega)
    subst this
    exact run_convert_bytes_nil w 48 5 Tryz.underlying48 Tryz.underlying5 0 0 9 Tryz.underlying9
  · refine run_convert_bytes_arg w 48 5 Tryz.underlying48 Tryz.underlying5 g 0 n cap xs hl ?_ 9 Tryz.underlying9
    intro i hi
    rw [Nat.zero_add, h.cellAt i (by omega)]
    have : i < xs.length := by omega
    simp [this]

theorem own_row {w : World} {base n cap g : Nat} {xs : List Int} (h : w.ownsRow base 5 1 (.slice (some ⟨g, 0, none⟩) n cap) n (xs.map (Value.int .u8))) (k : Nat) (hk : k ≤ n) : Row .u8 w (some ⟨g, 0, none⟩) (xs.take k) := by
  have hl : xs.length = n := by simpa using h.1
  refine .inr ⟨g, 0, rfl, fun i hi => ?_⟩
  have hi' : i < k := by simp at hi; omega
  rw [Nat.zero_add, h.cellAt i (by omega)]
  have : i < xs.length := by omega
  simp [this, hi']

theorem lit_row (w : World) (k : IntKind) (l : List Int) (t : TypeId) (g : Nat) (hg : g = w.heap.size) : Row k (w.alloc (.cells (l.map (Value.int k)).toArray t)) (some ⟨g, 0, none⟩) l := by
  refine .inr ⟨g, 0, rfl, fun i hi => ?_⟩
  rw [Nat.zero_add]
  simp [hi, hg]

/-- A slice of integers that came in: its elements are a row. -/
theorem isRow_use {k : IntKind} {w : World} {a : Option Addr} {len cap : Nat} {zs : List Int}
    (h : (a = none ∧ len = 0 ∧ cap = 0 ∧ zs = []) ∨ ∃ x, a = some x ∧ len ≤ cap ∧ cap ≤ maxLen ∧ zs.length = cap ∧ (∀ i, i < zs.length → w.cell? (x.add i) = some (.int k (zs.getD i 0))) ∧ ∀ n ∈ zs, (Lit.int k n).wf = true) :
    ∃ xs : List Int, Row k w a xs ∧ xs.length = len ∧ len ≤ cap ∧ cap ≤ maxLen ∧ (a = none → cap = 0) ∧ ∀ n ∈ xs, (Lit.int k n).wf = true := by
  rcases h with ⟨rfl, rfl, rfl, rfl⟩ | ⟨x, rfl, hl, hm, hz, hc, hwf⟩
  · exact ⟨[], .inl rfl, rfl, Nat.le_refl _, by decide, fun _ => rfl, by simp⟩
  · refine ⟨zs.take len, ?_, by simp; omega, hl, hm, fun h => (by simp at h), fun n hn => hwf n (List.mem_of_mem_take hn)⟩
    by_cases h0 : len = 0
    · left; simp [h0]
    · right
      obtain ⟨b, off, spot⟩ := x
      have h1 := hc 0 (by omega)
      have hspot : spot = none := by simpa [Addr.add] using World.cell?_spot h1
      subst hspot
      refine ⟨b, off, rfl, fun i hi => ?_⟩
      simp at hi
      have h2 := hc i (by omega)
      rw [Addr.add_lit] at h2
      rw [h2]
      have h3 : i < len := by omega
      have h4 : i < zs.length := by omega
      simp [h3, h4]

/-- What is owned is a slice of whatever shape, and a row. -/
theorem own_shape {w : World} {base n : Nat} {v : Value} {xs : List Int} (h : w.ownsRow base 5 1 v n (xs.map (Value.int .u8))) :
    ∃ a c, v = .slice a xs.length c ∧ Row .u8 w a xs ∧ xs.length ≤ c ∧ c ≤ maxLen ∧ (a = none → c = 0) := by
  have hl : xs.length = n := by simpa using h.1
  rcases h.2 with ⟨rfl, h0⟩ | ⟨g, cap, cur, rfl, _, _, hnc, hcm, _⟩
  · have : xs = [] := List.eq_nil_of_length_eq_zero (by omega)
    subst this
    exact ⟨none, 0, rfl, .inl rfl, Nat.le_refl _, by decide, fun _ => rfl⟩
  · refine ⟨some ⟨g, 0, none⟩, cap, by rw [hl], ?_, by omega, hcm, fun h => by simp at h⟩
    have := own_row h n (Nat.le_refl _)
    rwa [List.take_of_length_le (by omega)] at this

theorem u8s {zs : List Int} (hw : ∀ n ∈ zs, (Lit.int .u8 n).wf = true) : ∀ c ∈ zs, 0 ≤ c ∧ c ≤ 255 := fun c hc => bounds_u8 (hw c hc)

theorem u64s {zs : List Int} (hw : ∀ n ∈ zs, (Lit.int .u64 n).wf = true) : ∀ c ∈ zs, 0 ≤ c ∧ c ≤ 18446744073709551615 := fun c hc => bounds_u64 (hw c hc)

/-- What is owned and not empty is a slice at the head of a row. -/
theorem own_some {w : World} {base n : Nat} {v : Value} {xs : List Value} (h : w.ownsRow base 5 1 v n xs) (hn : 0 < n) : ∃ g cap, v = .slice (some ⟨g, 0, none⟩) n cap ∧ base ≤ g ∧ n ≤ cap ∧ cap ≤ maxLen := by
  rcases h.2 with ⟨rfl, h0⟩ | ⟨g, cap, cur, rfl, hb, _, hnc, hcm, _⟩
  · omega
  · exact ⟨g, cap, rfl, hb, hnc, hcm⟩

theorem bytes_take {zs : List Int} (h : ∀ c ∈ zs, 0 ≤ c ∧ c ≤ 255) (j : Nat) : ∀ c ∈ zs.take j, 0 ≤ c ∧ c ≤ 255 := fun c hc => h c (List.mem_of_mem_take hc)

theorem bytes_set {zs : List Int} (h : ∀ c ∈ zs, 0 ≤ c ∧ c ≤ 255) (j : Nat) {x : Int} (hx : 0 ≤ x ∧ x ≤ 255) : ∀ c ∈ zs.set j x, 0 ≤ c ∧ c ≤ 255 := by
  intro c hc
  rcases List.mem_or_eq_of_mem_set hc with h1 | h1
  · exact h c h1
  · rw [h1]; exact hx

theorem bytes_append {xs ys : List Int} (h : ∀ c ∈ xs, 0 ≤ c ∧ c ≤ 255) (h' : ∀ c ∈ ys, 0 ≤ c ∧ c ≤ 255) : ∀ c ∈ xs ++ ys, 0 ≤ c ∧ c ≤ 255 := by
  intro c hc
  rcases List.mem_append.1 hc with h1 | h1
  · exact h c h1
  · exact h' c h1

theorem own_kept {w w2 : World} {b e s g n c : Nat} {row : Option Nat} {xs : List Value} (h : w.ownsRow b e s (.slice (some ⟨g, 0, none⟩) n c) n xs) (hg : w.grownBy w2 row) (hr : ∀ k, row = some k → k ≠ g) : w2.ownsRow b e s (.slice (some ⟨g, 0, none⟩) n c) n xs := by
  refine h.kept hg ?_
  cases row with
  | none => right; simp [Value.ownBlock]
  | some k => right; have := hr k rfl; simp [Value.ownBlock]; omega

theorem own_base {w : World} {b e s g n c : Nat} {xs : List Value} (h : w.ownsRow b e s (.slice (some ⟨g, 0, none⟩) n c) n xs) : b ≤ w.heap.size := by
  have := h.lt g rfl; omega

theorem mod_nat (x : Int) (k : Nat) (hk : 0 < k) : ∃ t : Nat, t < k ∧ x % (k : Int) = (t : Int) := by
  have h1 := Int.emod_lt_of_pos x (show (0 : Int) < (k : Int) by omega)
  have h2 := Int.emod_nonneg x (show (k : Int) ≠ 0 by omega)
  exact ⟨(x % (k : Int)).toNat, by omega, by omega⟩

/-- A row of bytes as a string. -/
theorem row_string {w : World} {a : Option Addr} {zs : List Int} {cap : Nat} (h : Row .u8 w a zs) : (convert 48 9 (.slice a zs.length cap)).run Tryz.prog w = .ok (.string (strOfNums zs)) w := by
  rcases h with rfl | ⟨b, off, rfl, hc⟩
  · cases a with
    | none => exact run_convert_bytes_nil w 48 5 Tryz.underlying48 Tryz.underlying5 0 cap 9 Tryz.underlying9
    | some x =>
      rw [run_convert_bytes_string w 48 9 5 _ _ cap Tryz.underlying48 Tryz.underlying5 Tryz.underlying9]
      exact run_bytesToString w x 0 cap [] (by simp [loadCells, loadCellsFrom])
  · exact run_convert_bytes_arg w 48 5 Tryz.underlying48 Tryz.underlying5 b off zs.length cap zs rfl hc 9 Tryz.underlying9

theorem cell_later {w W : World} {p : Addr} {v : Value} (h : w.cell? p = some v) (hb : Below w.heap.size w W) : W.cell? p = some v := (hb.cell (World.block_lt_of_cell? w _ h)).trans h

/-- A condition may be made stronger on the way. -/
theorem wpAnyH_weaken {P : Program} {ops : Array Oper} {Q : Exit → Act → World → Prop} {md : Region.Mode} {S S2 : World → Prop} (hs : ∀ w, S2 w → S w) :
    ∀ (fuel : Nat) (listed : Array Bool) (a : Act) (w : World), wpAnyH P md ops Q S2 fuel listed a w → wpAnyH P md ops Q S fuel listed a w
  | 0, _, _, _, h => h
  | fuel + 1, _, _, _, h => ⟨h.1, fun i hi => wpOp_mono (fun a' w' h' => ⟨hs _ h'.1, wpAnyH_weaken hs fuel _ a' w' h'.2⟩) (h.2 i hi)⟩

end Go.Proofs.YteockpllnhjooaaGreatDoor
namespace Go.Proofs.YteockpllnhjooaaGreatDoor
open Go.RowKit NumMath
set_option maxRecDepth 100000
set_option linter.unusedVariables false
set_option linter.unusedSimpArgs false

/-- Bytes as natural numbers. -/
def nats (zs : List Int) : List Nat := zs.map Int.toNat

theorem nats_byte {zs : List Int} (h : ∀ c ∈ zs, 0 ≤ c ∧ c ≤ 255) : ∀ c ∈ nats zs, c < 256 := by
  intro c hc
  obtain ⟨x, hx, rfl⟩ := List.mem_map.1 hc
  have := h x hx; omega
theorem nats_append (a b : List Int) : nats (a ++ b) = nats a ++ nats b := List.map_append
theorem nats_step (zs : List Int) (k : Nat) (h : k < zs.length) : nats (zs.drop k) = (zs[k]?.getD 0).toNat :: nats (zs.drop (k + 1)) := by
  rw [List.drop_eq_getElem_cons h]
  show zs[k].toNat :: _ = _
  rw [show zs[k]?.getD 0 = zs[k] by simp [h]]
  rfl
theorem not32 {s : Nat} (h : s < 4294967296) : bits .xor .u32 IntKind.u32.max (s : Int) = ((s ^^^ CrcMath.ones : Nat) : Int) := by
  have := u32_xor_nat CrcMath.ones s (by decide) h
  rw [Nat.xor_comm s]
  exact this
theorem xor32 {s : Nat} {c : Int} (h : s < 4294967296) (h0 : 0 ≤ c) (h1 : c ≤ 255) : bits .xor .u32 (s : Int) c = ((s ^^^ c.toNat : Nat) : Int) := by
  obtain ⟨d, rfl⟩ := Int.eq_ofNat_of_zero_le h0
  rw [Int.toNat_natCast]
  exact u32_xor_nat s d h (by omega)
theorem and1 {s : Nat} (h : s < 4294967296) : bits .and .u32 (s : Int) 1 = ((s % 2 : Nat) : Int) := by
  have := u32_and_nat s 1 h (by decide)
  rw [Nat.and_one_is_mod] at this
  exact this
theorem xorPoly {s : Nat} (h : s < 4294967296) : bits .xor .u32 ((s : Int) / 2) 3988292384 = ((s / 2 ^^^ CrcMath.poly : Nat) : Int) := by
  have := u32_xor_nat (s / 2) CrcMath.poly (by omega) (by decide)
  exact this

/-- A part: a slice of bytes, its address, its bytes, its room. -/
structure Part where
  a : Option Addr
  zs : List Int
  cap : Nat

def Part.val (p : Part) : Value := .slice p.a p.zs.length p.cap
/-- A part that lies in memory. -/
def Part.ok (w : World) (p : Part) : Prop := Row .u8 w p.a p.zs ∧ (∀ c ∈ p.zs, 0 ≤ c ∧ c ≤ 255) ∧ p.zs.length ≤ p.cap ∧ p.cap ≤ maxLen
def noPart : Part := ⟨none, [], 0⟩
/-- From address a on the cells hold the parts ps, each of which lies in memory. -/
def Parts (w : World) (a : Option Addr) (ps : List Part) : Prop :=
  (ps = [] ∨ ∃ b off, a = some ⟨b, off, none⟩ ∧ ∀ i, i < ps.length → w.cell? ⟨b, off + i, none⟩ = some (ps[i]?.getD noPart).val) ∧ ∀ p ∈ ps, p.ok w
/-- All bytes of some parts. -/
def allB (ps : List Part) : List Int := ps.flatMap Part.zs

theorem part_ok {w : World} {a : Option Addr} {zs : List Int} {cap : Nat} (hr : Row .u8 w a zs) (hb : ∀ c ∈ zs, 0 ≤ c ∧ c ≤ 255) (hc : zs.length ≤ cap) (hm : cap ≤ maxLen) : (Part.mk a zs cap).ok w := ⟨hr, hb, hc, hm⟩
theorem Part.ok.later {w w' : World} {p : Part} (h : p.ok w) (hb : Below w.heap.size w w') : p.ok w' := ⟨h.1.later hb, h.2⟩
theorem Parts.later {w w' : World} {a : Option Addr} {ps : List Part} (h : Parts w a ps) (hb : Below w.heap.size w w') : Parts w' a ps := by
  refine ⟨?_, fun p hp => (h.2 p hp).later hb⟩
  rcases h.1 with h | ⟨b, off, ha, hc⟩
  · exact .inl h
  · refine .inr ⟨b, off, ha, fun i hi => ?_⟩
    have := hc i hi
    rw [hb.cell (World.block_lt_of_cell? w _ this)]
    exact this
theorem lit_parts (w : World) (ps : List Part) (t : TypeId) (g : Nat) (hg : g = w.heap.size) (h : ∀ p ∈ ps, p.ok w) : Parts (w.alloc (.cells (ps.map Part.val).toArray t)) (some ⟨g, 0, none⟩) ps := by
  refine ⟨.inr ⟨g, 0, rfl, fun i hi => ?_⟩, fun p hp => (h p hp).later ((Below.refl _ _).alloc (Nat.le_refl _) _)⟩
  rw [Nat.zero_add]
  simp [hi, hg]
theorem part_mem (ps : List Part) (k : Nat) (h : k < ps.length) : ps[k]?.getD noPart ∈ ps := by simp [h]
theorem parts_snoc (ps : List Part) (k : Nat) (h : k < ps.length) : allB (ps.take (k + 1)) = allB (ps.take k) ++ (ps[k]?.getD noPart).zs := by
  unfold allB
  rw [List.take_succ_eq_append_getElem h, List.flatMap_append]
  simp [h]
theorem allB_byte {w : World} {ps : List Part} (h : ∀ p ∈ ps, p.ok w) : ∀ c ∈ allB ps, 0 ≤ c ∧ c ≤ 255 := by
  intro c hc
  obtain ⟨p, hp, hcp⟩ := List.mem_flatMap.1 hc
  exact (h p hp).2.1 c hcp

end Go.Proofs.YteockpllnhjooaaGreatDoor
namespace Go.Proofs.YteockpllnhjooaaGreatDoor
open Go.RowKit
set_option maxRecDepth 100000
set_option linter.unusedVariables false
set_option linter.unusedSimpArgs false

section
variable {P : Program} {ops : Array Oper} {Q : Exit → Act → World → Prop} {md : Region.Mode}

/-- Each operation waits only for earlier ones. -/
def inOrder (md : Region.Mode) (ops : Array Oper) : Bool :=
  (List.range ops.size).all fun i => (ops[i]?.map fun o => o.after.toList.all fun e => !Region.binds md e || decide (e.on < i)).getD true
/-- Which have not come up yet. -/
def toDo (listed : Array Bool) : List Nat := (List.range listed.size).filter fun i => !listed.getD i false

theorem inOrder_spec (h : inOrder md ops = true) {i : Nat} {o : Oper} (ho : ops[i]? = some o) : ∀ e ∈ o.after, Region.binds md e = true → e.on < i := by
  intro e he hb
  have hi : i < ops.size := (Array.getElem?_eq_some_iff.1 ho).1
  have h1 := List.all_eq_true.1 h i (List.mem_range.2 hi)
  rw [ho] at h1
  simp only [Option.map_some, Option.getD_some] at h1
  have h2 := List.all_eq_true.1 h1 e (by simpa using he)
  simpa [hb] using h2

theorem all_up {listed : Array Bool} (hord : inOrder md ops = true) (hsz : listed.size = ops.size) (hr : Region.ready md ops listed = []) : ∀ n i, i < n → i < ops.size → listed.getD i false = true
  | 0, _, h, _ => by omega
  | n + 1, i, h, hi => by
    by_cases hl : listed.getD i false = true
    · exact hl
    · have ho : ops[i]? = some ops[i] := by simp [hi]
      have : i ∈ Region.ready md ops listed := by
        refine mem_ready.2 ⟨?_, _, ho, fun e he hb => ?_⟩
        · have : i < listed.size := by omega
          simp [this] at hl ⊢
          exact hl
        · have := inOrder_spec hord ho e he hb
          exact all_up hord hsz hr n e.on (by omega) (by omega)
      rw [hr] at this
      cases this

/-- What each of the operations 'rs' does to the invariant. -/
def InvSteps (P : Program) (md : Region.Mode) (ops : Array Oper) (Q : Exit → Act → World → Prop) (Inv : Array Bool → Act → World → Prop) (rs : List Nat) : Prop :=
  ∀ i ∈ rs, ∀ listed a w, listed.size = ops.size → Inv listed a w → (∀ o, ops[i]? = some o → ∀ e ∈ o.after, Region.binds md e = true → listed.getD e.on false = true) →
    wpOp P ops Q i (fun a' w' => Inv (listed.setIfInBounds i true) a' w') a w
theorem InvSteps.nil {Inv : Array Bool → Act → World → Prop} : InvSteps P md ops Q Inv [] := fun _ h => by cases h
theorem InvSteps.cons {Inv : Array Bool → Act → World → Prop} {i : Nat} {o : Oper} {rs : List Nat} (ho : ops[i]? = some o)
    (h : ∀ listed a w, listed.size = ops.size → Inv listed a w → (∀ e ∈ o.after, Region.binds md e = true → listed.getD e.on false = true) →
      ∀ K' : Act → World → Prop, Shut (∀ a w, Inv (listed.setIfInBounds i true) a w → K' a w) → if Region.wanted o (yielded ops a.tmps) = true then Oper.wp P o a w K' Q else K' (a.put o.dst undef) w)
    (hs : InvSteps P md ops Q Inv rs) : InvSteps P md ops Q Inv (i :: rs) := fun j hj => by
  rcases List.mem_cons.1 hj with rfl | hj
  · intro listed a w hsz hI hd
    exact wpOp_step ho (fun K' hK => h listed a w hsz hI (fun e he hb => hd o ho e he hb) K' (fun a w hI => hK a w hI))
  · exact hs j hj

theorem wpAnyH_inv {Inv : Array Bool → Act → World → Prop} {L0 : Array Bool} {rs : List Nat} (hrs : toDo L0 = rs) (hord : inOrder md ops = true)
    (hstep : InvSteps P md ops Q Inv rs) (hdone : ∀ listed a w, Inv listed a w → (∀ i, i < ops.size → listed.getD i false = true) → Q .normal a w) :
    ∀ fuel listed a w, listed.size = ops.size → L0.size = ops.size → (∀ j, L0.getD j false = true → listed.getD j false = true) → (toDo listed).length ≤ fuel → Inv listed a w → wpAnyH P md ops Q (fun _ => True) fuel listed a w := by
  intro fuel
  have key : ∀ (listed : Array Bool) (i : Nat), i ∈ Region.ready md ops listed → listed.size = ops.size → listed.getD i false = false ∧ i < ops.size := by
    intro listed i hi hsz
    obtain ⟨h1, o, ho, _⟩ := mem_ready.1 hi
    have hlt : i < ops.size := (Array.getElem?_eq_some_iff.1 ho).1
    have : i < listed.size := by omega
    simp [this] at h1 ⊢
    exact ⟨h1, hlt⟩
  induction fuel with
  | zero =>
    intro listed a w hsz hsz0 hl0 hf hI
    have hr : Region.ready md ops listed = [] := by
      apply List.eq_nil_iff_forall_not_mem.2
      intro i hi
      obtain ⟨h1, h2⟩ := key listed i hi hsz
      have h3 : toDo listed = [] := List.eq_nil_of_length_eq_zero (by omega)
      have : i ∈ toDo listed := by unfold toDo; rw [List.mem_filter, List.mem_range]; exact ⟨by omega, by rw [h1]; rfl⟩
      rw [h3] at this
      cases this
    exact ⟨hr, hdone listed a w hI (fun i hi => all_up hord hsz hr (i + 1) i (by omega) hi)⟩
  | succ fuel ih =>
    intro listed a w hsz hsz0 hl0 hf hI
    refine ⟨fun hr => hdone listed a w hI (fun i hi => all_up hord hsz hr (i + 1) i (by omega) hi), fun i hi => ?_⟩
    obtain ⟨h1, h2⟩ := key listed i hi hsz
    have hmem : i ∈ rs := by
      rw [← hrs]
      unfold toDo
      rw [List.mem_filter, List.mem_range]
      refine ⟨by omega, ?_⟩
      cases h : L0.getD i false with
      | false => rfl
      | true => rw [hl0 i h] at h1; cases h1
    obtain ⟨_, o, ho, hall⟩ := mem_ready.1 hi
    refine wpOp_mono (fun a' w' hI' => ⟨trivial, ih _ a' w' (by simpa using hsz) hsz0 ?_ ?_ hI'⟩) (hstep i hmem listed a w hsz hI (fun o' ho' e he hb => by rw [ho] at ho'; cases ho'; exact hall e he hb))
    · intro j hj
      have := hl0 j hj
      by_cases e : i = j
      · subst e; simp [show i < listed.size by omega]
      · simp [Array.getElem?_setIfInBounds, e] at this ⊢; exact this
    · have hlt : (toDo (listed.setIfInBounds i true)).length < (toDo listed).length := by
        have hsub : toDo (listed.setIfInBounds i true) = (toDo listed).filter (fun j => decide (j ≠ i)) := by
          unfold toDo
          rw [List.filter_filter, Array.size_setIfInBounds]
          apply List.filter_congr
          intro j hj
          have hj' : j < listed.size := List.mem_range.1 hj
          by_cases e : i = j
          · subst e; simp [hj']
          · simp [Array.getElem?_setIfInBounds, e, hj', Ne.symm e]
        rw [hsub]
        have hin : i ∈ toDo listed := by unfold toDo; rw [List.mem_filter, List.mem_range]; exact ⟨by omega, by rw [h1]; rfl⟩
        exact List.length_filter_lt_length_iff_exists.2 ⟨i, hin, by simp⟩
      omega

/-- The same, the invariant told of the act at hand. -/
theorem wpAnyH_inv_at {Rel : Act → Array Bool → Act → World → Prop} {fuel : Nat} {listed : Array Bool} {a : Act} {w : World} {rs : List Nat} (hrs : toDo listed = rs) (hord : inOrder md ops = true)
    (hsz : listed.size = ops.size) (hf : (toDo listed).length ≤ fuel) (h0 : Rel a listed a w) (hstep : InvSteps P md ops Q (Rel a) rs)
    (hdone : ∀ l a' w', Rel a l a' w' → (∀ i, i < ops.size → l.getD i false = true) → Q .normal a' w') : wpAnyH P md ops Q (fun _ => True) fuel listed a w :=
  wpAnyH_inv hrs hord hstep hdone fuel listed a w hsz hsz (fun _ h => h) hf h0

theorem put_self (a : Act) (i : Nat) (h : i < a.tmps.size) : a.put (some i) (a.tmps.getD i undef) = a := by
  cases a with
  | mk tmps defers =>
    simp only [Act.put]
    congr 1
    apply Array.ext
    · simp
    · intro j h1 h2
      by_cases e : i = j
      · subst e; simp at h ⊢; simp [h]
      · rw [Array.getElem_setIfInBounds (by simpa using h2)]; simp [e]
theorem not_up {b : Bool} {p : Prop} (h : b = false) (h' : b = true) : p := by rw [h] at h'; cases h'

theorem up_keep {l : Array Bool} {i j : Nat} (h : (l.setIfInBounds i true).getD j false = true) (hne : i ≠ j) : l.getD j false = true := by
  simp [Array.getElem?_setIfInBounds, hne] at h ⊢; exact h
end
end Go.Proofs.YteockpllnhjooaaGreatDoor
namespace Go.Proofs.YteockpllnhjooaaGreatDoor
open Go.RowKit
set_option maxRecDepth 100000
set_option linter.unusedVariables false
set_option linter.unusedSimpArgs false

section
variable {P : Program} {ops : Array Oper} {Q : Exit → Act → World → Prop} {md : Region.Mode}

/-- What each of the operations 'rs' does to the invariant. -/
def InvStepsN (P : Program) (md : Region.Mode) (ops : Array Oper) (Q : Exit → Act → World → Prop) (Inv : Array Bool → Act → World → Prop) (rs : List Nat) : Prop :=
  ∀ i ∈ rs, ∀ listed a w, listed.size = ops.size → listed.getD i false = false → Inv listed a w → (∀ o, ops[i]? = some o → ∀ e ∈ o.after, Region.binds md e = true → listed.getD e.on false = true) →
    wpOp P ops Q i (fun a' w' => Inv (listed.setIfInBounds i true) a' w') a w
theorem InvStepsN.nil {Inv : Array Bool → Act → World → Prop} : InvStepsN P md ops Q Inv [] := fun _ h => by cases h
theorem InvStepsN.cons {Inv : Array Bool → Act → World → Prop} {i : Nat} {o : Oper} {rs : List Nat} (ho : ops[i]? = some o)
    (h : ∀ listed a w, listed.size = ops.size → listed.getD i false = false → Inv listed a w → (∀ e ∈ o.after, Region.binds md e = true → listed.getD e.on false = true) →
      ∀ K' : Act → World → Prop, Shut (∀ a w, Inv (listed.setIfInBounds i true) a w → K' a w) → if Region.wanted o (yielded ops a.tmps) = true then Oper.wp P o a w K' Q else K' (a.put o.dst undef) w)
    (hs : InvStepsN P md ops Q Inv rs) : InvStepsN P md ops Q Inv (i :: rs) := fun j hj => by
  rcases List.mem_cons.1 hj with rfl | hj
  · intro listed a w hsz hni hI hd
    exact wpOp_step ho (fun K' hK => h listed a w hsz hni hI (fun e he hb => hd o ho e he hb) K' (fun a w hI => hK a w hI))
  · exact hs j hj

theorem wpAnyH_invN {Inv : Array Bool → Act → World → Prop} {L0 : Array Bool} {rs : List Nat} (hrs : toDo L0 = rs) (hord : inOrder md ops = true)
    (hstep : InvStepsN P md ops Q Inv rs) (hdone : ∀ listed a w, Inv listed a w → (∀ i, i < ops.size → listed.getD i false = true) → Q .normal a w) :
    ∀ fuel listed a w, listed.size = ops.size → L0.size = ops.size → (∀ j, L0.getD j false = true → listed.getD j false = true) → (toDo listed).length ≤ fuel → Inv listed a w → wpAnyH P md ops Q (fun _ => True) fuel listed a w := by
  intro fuel
  have key : ∀ (listed : Array Bool) (i : Nat), i ∈ Region.ready md ops listed → listed.size = ops.size → listed.getD i false = false ∧ i < ops.size := by
    intro listed i hi hsz
    obtain ⟨h1, o, ho, _⟩ := mem_ready.1 hi
    have hlt : i < ops.size := (Array.getElem?_eq_some_iff.1 ho).1
    have : i < listed.size := by omega
    simp [this] at h1 ⊢
    exact ⟨h1, hlt⟩
  induction fuel with
  | zero =>
    intro listed a w hsz hsz0 hl0 hf hI
    have hr : Region.ready md ops listed = [] := by
      apply List.eq_nil_iff_forall_not_mem.2
      intro i hi
      obtain ⟨h1, h2⟩ := key listed i hi hsz
      have h3 : toDo listed = [] := List.eq_nil_of_length_eq_zero (by omega)
      have : i ∈ toDo listed := by unfold toDo; rw [List.mem_filter, List.mem_range]; exact ⟨by omega, by rw [h1]; rfl⟩
      rw [h3] at this
      cases this
    exact ⟨hr, hdone listed a w hI (fun i hi => all_up hord hsz hr (i + 1) i (by omega) hi)⟩
  | succ fuel ih =>
    intro listed a w hsz hsz0 hl0 hf hI
    refine ⟨fun hr => hdone listed a w hI (fun i hi => all_up hord hsz hr (i + 1) i (by omega) hi), fun i hi => ?_⟩
    obtain ⟨h1, h2⟩ := key listed i hi hsz
    have hmem : i ∈ rs := by
      rw [← hrs]
      unfold toDo
      rw [List.mem_filter, List.mem_range]
      refine ⟨by omega, ?_⟩
      cases h : L0.getD i false with
      | false => rfl
      | true => rw [hl0 i h] at h1; cases h1
    obtain ⟨_, o, ho, hall⟩ := mem_ready.1 hi
    refine wpOp_mono (fun a' w' hI' => ⟨trivial, ih _ a' w' (by simpa using hsz) hsz0 ?_ ?_ hI'⟩) (hstep i hmem listed a w hsz h1 hI (fun o' ho' e he hb => by rw [ho] at ho'; cases ho'; exact hall e he hb))
    · intro j hj
      have := hl0 j hj
      by_cases e : i = j
      · subst e; simp [show i < listed.size by omega]
      · simp [Array.getElem?_setIfInBounds, e] at this ⊢; exact this
    · have hlt : (toDo (listed.setIfInBounds i true)).length < (toDo listed).length := by
        have hsub : toDo (listed.setIfInBounds i true) = (toDo listed).filter (fun j => decide (j ≠ i)) := by
          unfold toDo
          rw [List.filter_filter, Array.size_setIfInBounds]
          apply List.filter_congr
          intro j hj
          have hj' : j < listed.size := List.mem_range.1 hj
          by_cases e : i = j
          · subst e; simp [hj']
          · simp [Array.getElem?_setIfInBounds, e, hj', Ne.symm e]
        rw [hsub]
        have hin : i ∈ toDo listed := by unfold toDo; rw [List.mem_filter, List.mem_range]; exact ⟨by omega, by rw [h1]; rfl⟩
        exact List.length_filter_lt_length_iff_exists.2 ⟨i, hin, by simp⟩
      omega

/-- The same, the invariant told of the act at hand. -/
theorem wpAnyH_invN_at {Rel : Act → Array Bool → Act → World → Prop} {fuel : Nat} {listed : Array Bool} {a : Act} {w : World} {rs : List Nat} (hrs : toDo listed = rs) (hord : inOrder md ops = true)
    (hsz : listed.size = ops.size) (hf : (toDo listed).length ≤ fuel) (h0 : Rel a listed a w) (hstep : InvStepsN P md ops Q (Rel a) rs)
    (hdone : ∀ l a' w', Rel a l a' w' → (∀ i, i < ops.size → l.getD i false = true) → Q .normal a' w') : wpAnyH P md ops Q (fun _ => True) fuel listed a w :=
  wpAnyH_invN hrs hord hstep hdone fuel listed a w hsz hsz (fun _ h => h) hf h0

end
theorem up_set {l : Array Bool} {i j : Nat} (h : l.getD j false = true) : (l.setIfInBounds i true).getD j false = true := by
  by_cases e : i = j
  · subst e
    by_cases hi : i < l.size
    · simp [hi]
    · simp [Array.getElem?_eq_none (by omega : l.size ≤ i)] at h
  · simp [Array.getElem?_setIfInBounds, e] at h ⊢; exact h
theorem set_other {l : Array Bool} {i j : Nat} (hne : i ≠ j) : (l.setIfInBounds i true).getD j false = l.getD j false := by
  simp [Array.getElem?_setIfInBounds, hne]
theorem set_self {l : Array Bool} {i : Nat} (h : i < l.size) : (l.setIfInBounds i true).getD i false = true := by simp [h]
end Go.Proofs.YteockpllnhjooaaGreatDoor
namespace Go.Proofs.YteockpllnhjooaaGreatDoor
open Go.RowKit NumMath
set_option maxRecDepth 100000
set_option linter.unusedVariables false
set_option linter.unusedSimpArgs false

theorem size_any (v : Int) (w : World) (h0 : 0 ≤ v) (h1 : v ≤ 18446744073709551615) :
    Calls Tryz.prog 35 #[.int .u64 v] w fun e w' => e = .returned (.int .i64 ((D v).length : Int)) ∧ w' = w := by
  go_enter Tryz.func35, Tryz.ntmps35
  go_wp2
  go_loop [0, 3] (fun x n => ∃ (V : Int) (k : Nat), 0 ≤ V ∧ V ≤ 18446744073709551615 ∧ x = .int .u64 V ∧ n = .int .i64 ((k : Int) + 1) ∧ k + (D V).length = (D v).length) (fun x _ => (intOf x).toNat)
  case atStart => exact ⟨v, 0, h0, h1, rfl, rfl, by omega⟩
  case round =>
    obtain ⟨V, k, hV0, hV1, rfl, rfl, hk⟩ := hrel
    have hl := D_len v
    have hl2 := D_len V
    have HK : Hid (k + (D V).length = (D v).length) := hk
    have hk10 : k ≤ 10 := by omega
    clear hk
    go_wp2
    · have hge : 128 ≤ V := by assumption
      have hk := HK.out
      rw [D_step hV0 hV1 (by omega)] at hk
      simp only [List.length_cons] at hk
      go_round
      case rel => exact ⟨V / 128, k + 1, by omega, by omega, rfl, by go_num, by omega⟩
      case measure => simp [intOf]; omega
    · have hlt : V < 128 := by assumption
      have hk := HK.out
      rw [D_small hlt] at hk
      simp only [List.length_cons, List.length_nil] at hk
      go_ret
      exact ⟨ret_int (by omega), rfl⟩

end Go.Proofs.YteockpllnhjooaaGreatDoor
namespace Go.Proofs.YteockpllnhjooaaGreatDoor
open Go.RowKit NumMath
set_option maxRecDepth 100000
set_option linter.unusedVariables false
set_option linter.unusedSimpArgs false

theorem byte_or {V : Int} (h0 : 0 ≤ V) : bits .or .u8 (V % 256) 128 = V % 128 + 128 := by
  rw [u8_or (V % 256) 128 (by omega) (by omega) (by omega) (by omega)]
  have := or128 (V % 256).toNat (by omega)
  rw [show (128 : Int).toNat = 128 from rfl, this]
  omega

set_option maxHeartbeats 800000 in
theorem put_any (a al : Option Addr) (zs ls : List Int) (cap capl : Nat) (w : World) (hr : Row .u8 w a zs) (hc : zs.length ≤ cap) (hm : cap ≤ maxLen) (hnil : a = none → cap = 0)
    (hl : Row .u64 w al ls) (hlb : ∀ c ∈ ls, 0 ≤ c ∧ c ≤ 18446744073709551615) (hlc : ls.length ≤ capl) (hlm : capl ≤ maxLen) (hsz : zs.length + 10 * ls.length ≤ 140737488355328) :
    Calls Tryz.prog 36 #[.slice a zs.length cap, .slice al ls.length capl] w fun e w' => e = .returned (.slice (some ⟨w.heap.size, 0, none⟩) (zs ++ ls.flatMap D).length (zs ++ ls.flatMap D).length) ∧
      w'.ownsRow w.heap.size 5 1 (.slice (some ⟨w.heap.size, 0, none⟩) (zs ++ ls.flatMap D).length (zs ++ ls.flatMap D).length) (zs ++ ls.flatMap D).length ((zs ++ ls.flatMap D).map (Value.int .u8)) ∧ Below w.heap.size w w' := by
  obtain ⟨i0, hi, hz0, hz1, hz2⟩ := info_parts Tryz.info5
  unfold maxLen at hm hlm
  rcases hl with rfl | ⟨b, off, rfl, hcell⟩
  · rw [List.flatMap_nil, List.append_nil]
    obtain ⟨m, hmz⟩ : ∃ m, m = zs.length := ⟨_, rfl⟩
    rw [← hmz] at hc hsz ⊢
    simp only [List.length_nil] at hsz ⊢
    have HM : Hid (m = zs.length) := hmz
    clear hmz
    go_enter Tryz.func36, Tryz.ntmps36
    go_wp2
    refine wp_loop_rounds 1 ?_
    rw [rounds_succ]
    go_wp2_with (first
      | (at_make; refine wpList_make_own _ rfl _ _ 48 rfl w.heap.size 5 i0 (.int .u8 0) 1 Tryz.underlying48 hi hz0 hz1 _ _ _ m rfl rfl (by omega) (by rw [hz2]; omega) (by unfold maxLen; omega) (Nat.le_refl _) ?_; intro w0 hown0 hgrow0)
      | (at_builtin; refine wpList_append_fits_any _ rfl (.tmp 26) (.tmp 27) 48 rfl w.heap.size 5 i0 1 Tryz.underlying48 hi hz1 w.heap.size 0 m _ rfl hown0 a m cap (zs.map (Value.int .u8)) rfl (by rw [List.length_map, Nat.mul_one]; exact HM.out.symm) (by intro h; have := hnil h; omega) (hr.later ((Below.refl _ _).grown hgrow0 (Nat.le_refl _) (fun k h => by cases h))).news (ints_oneCell _ _) (by omega) ?_; intro w1 hown1 hgrow1))
    refine wp_loop_rounds 1 ?_
    rw [rounds_succ]
    have hb1 : Below w.heap.size w w1 := ((Below.refl _ _).grown hgrow0 (Nat.le_refl _) (fun k h => by cases h)).grown hgrow1 hgrow0.size (fun k hk => by cases hk; exact Nat.le_refl _)
    simp only [Nat.zero_add, List.nil_append] at hown1
    go_wp2
    go_ret
    exact ⟨by simp, hown1, hb1⟩
  · obtain ⟨n, hn⟩ : ∃ n, n = ls.length := ⟨_, rfl⟩
    obtain ⟨m, hmz⟩ : ∃ m, m = zs.length := ⟨_, rfl⟩
    obtain ⟨T, hT⟩ : ∃ T, T = (F zs ls ls.length).length := ⟨_, rfl⟩
    rw [← F_all, ← hT, ← hn, ← hmz]
    have HN : Hid (n = ls.length) := hn
    have HM : Hid (m = zs.length) := hmz
    have HTT : Hid (T = (F zs ls ls.length).length) := hT
    have hT1 := F_le zs ls ls.length
    rw [← hn] at hcell
    have hsz2 : m + 10 * n ≤ 140737488355328 := by omega
    have hTle : T ≤ m + 10 * n := by omega
    have hmc : m ≤ cap := by omega
    have hnc : n ≤ capl := by omega
    have HCELL : Hid (∀ i, i < n → w.cell? ⟨b, off + i, none⟩ = some (.int .u64 (ls.getD i 0))) := hcell
    clear hn hmz hT hT1 hsz hc hlc hcell
    go_enter Tryz.func36, Tryz.ntmps36
    go_wp2
    go_loop [5, 15] (fun s i => ∃ k : Nat, k ≤ n ∧ i = .int .i64 k ∧ s = .int .i64 ((F zs ls k).length : Int)) (fun _ i => n - (intOf i).toNat)
    case atStart => exact ⟨0, by omega, rfl, by rw [F_zero, ← HM.out]⟩
    case round =>
      obtain ⟨k, hk, rfl, rfl⟩ := hrel
      by_cases hlt : k < n
      · obtain ⟨V, hV⟩ : ∃ V, V = ls[k]?.getD 0 := ⟨_, rfl⟩
        have hcx : w.cell? ⟨b, off + k, none⟩ = some (.int .u64 V) := by rw [hV]; simpa using HCELL.out k hlt
        have hVb : 0 ≤ V ∧ V ≤ 18446744073709551615 := by rw [hV]; exact hlb _ (mem_getD ls k (by have := HN.out; omega))
        have hD := D_len V
        have hF := F_le zs ls k
        rw [← HM.out] at hF
        have HF : Hid ((F zs ls (k + 1)).length = (F zs ls k).length + (D V).length) := by rw [hV]; exact F_len_succ zs ls k (by have := HN.out; omega)
        clear hV
        go_wp2_with (go_at_call 35; refine (size_any _ _ (by omega) (by omega)).mono ?_; rintro e w' ⟨rfl, rfl⟩)
        go_round
        case rel => exact ⟨k + 1, by omega, by go_num, by rw [HF.out]; go_num⟩
        case measure => simp [intOf]; omega
      · have hkn : k = n := by omega
        have hFT : (F zs ls k).length = T := by rw [HTT.out, hkn, HN.out]
        rw [hFT]
        clear hFT
        go_wp2_with (first
          | (at_make; refine wpList_make_own _ rfl _ _ 48 rfl w.heap.size 5 i0 (.int .u8 0) 1 Tryz.underlying48 hi hz0 hz1 _ _ _ T rfl rfl (by omega) (by rw [hz2]; omega) (by unfold maxLen; omega) (Nat.le_refl _) ?_; intro w0 hown0 hgrow0)
          | (at_builtin; refine wpList_append_fits_any _ rfl (.tmp 26) (.tmp 27) 48 rfl w.heap.size 5 i0 1 Tryz.underlying48 hi hz1 w.heap.size 0 T _ rfl hown0 a m cap (zs.map (Value.int .u8)) rfl ?h1 ?h2 ?h3 (ints_oneCell _ _) ?h4 ?_))
        case h1 => exact HM.out.symm
        case h2 => intro h; have := hnil h; omega
        case h3 =>
          have h := (hr.later ((Below.refl _ _).grown hgrow0 (Nat.le_refl _) (fun k h => by cases h))).news
          simpa using h
        case h4 => have := F_mono zs ls (Nat.zero_le ls.length); rw [F_zero, ← HTT.out, ← HM.out] at this; exact this
        intro w1 hown1 hgrow1
        have hb1 : Below w.heap.size w w1 := ((Below.refl _ _).grown hgrow0 (Nat.le_refl _) (fun k h => by cases h)).grown hgrow1 hgrow0.size (fun k hk => by cases hk; exact Nat.le_refl _)
        clear hgrow0 hgrow1 hown0 hr
        go_wp2
        go_loopw [8, 31] (fun out i wr => ∃ (q : Nat) (P : List Int), q ≤ n ∧ i = .int .i64 q ∧ out = .slice (some ⟨w.heap.size, 0, none⟩) P.length T ∧ P = F zs ls q ∧
            wr.ownsRow w.heap.size 5 1 (.slice (some ⟨w.heap.size, 0, none⟩) P.length T) P.length (P.map (Value.int .u8)) ∧ Below w.heap.size w wr) (fun _ i _ => n - (intOf i).toNat)
        case atStart => exact ⟨0, zs, by omega, rfl, by rw [← HM.out], (F_zero zs ls).symm, by rw [← HM.out]; exact hown1, hb1⟩
        case round =>
          obtain ⟨q, P, hq, rfl, rfl, hP, hown, hnx⟩ := hrel
          have HP : Hid (P = F zs ls q) := hP
          clear hP hown1 hb1
          by_cases hlt2 : q < n
          · obtain ⟨V, hV⟩ : ∃ V, V = ls[q]?.getD 0 := ⟨_, rfl⟩
            have hcx0 : w.cell? ⟨b, off + q, none⟩ = some (.int .u64 V) := by rw [hV]; simpa using HCELL.out q hlt2
            have hcx : wr.cell? ⟨b, off + q, none⟩ = some (.int .u64 V) := (hnx.cell (World.block_lt_of_cell? w _ hcx0)).trans hcx0
            have hVb : 0 ≤ V ∧ V ≤ 18446744073709551615 := by rw [hV]; exact hlb _ (mem_getD ls q (by have := HN.out; omega))
            have HF : Hid (F zs ls (q + 1) = F zs ls q ++ D V) := by rw [hV]; exact F_succ zs ls q (by have := HN.out; omega)
            have HFT : Hid ((F zs ls (q + 1)).length ≤ T) := by
              have := F_mono zs ls (show q + 1 ≤ ls.length by have := HN.out; omega)
              rw [← HTT.out] at this; exact this
            clear hV hcx0
            go_wp2
            go_loopw [8, 10] (fun out v wi => ∃ (U : Int) (R : List Int), 0 ≤ U ∧ U ≤ 18446744073709551615 ∧ v = .int .u64 U ∧ out = .slice (some ⟨w.heap.size, 0, none⟩) R.length T ∧ R ++ D U = F zs ls (q + 1) ∧
              wi.ownsRow w.heap.size 5 1 (.slice (some ⟨w.heap.size, 0, none⟩) R.length T) R.length (R.map (Value.int .u8)) ∧ Below w.heap.size w wi) (fun _ v _ => (intOf v).toNat)
            case atStart => exact ⟨V, P, hVb.1, hVb.2, rfl, rfl, by rw [HF.out, HP.out], hown, hnx⟩
            case round =>
              obtain ⟨U, R, hU0, hU1, rfl, rfl, hR, hownR, hnxR⟩ := hrel
              have hRl : R.length + (D U).length = (F zs ls (q + 1)).length := by rw [← hR]; simp
              have hDU := D_len U
              have hroom : R.length + 1 ≤ T := by have := HFT.out; omega
              have HR : Hid (R ++ D U = F zs ls (q + 1)) := hR
              clear hR hRl hown hnx hcx
              by_cases hge : 128 ≤ U
              · have hbyte := byte_or hU0
                go_wp2_with (at_builtin; refine wpList_append_fits _ rfl (.tmp 37) (.tmp 41) 48 rfl w.heap.size 5 i0 1 Tryz.underlying48 hi hz1 w.heap.size R.length T _ rfl (hownR.alloc _) ⟨wr.heap.size, 0, none⟩ 1 1 [.int .u8 (U % 128 + 128)] rfl rfl (one_new _ _ _) (one_cell _ _) hroom ?_; intro w2 hown2 hgrow2)
                have hb2 : Below w.heap.size w w2 := (hnxR.alloc hnxR.size _).grown hgrow2 (by simp; have := hnxR.size; omega) (fun k hk => by cases hk; exact Nat.le_refl _)
                clear hgrow2 hownR hbyte
                go_roundw
                case rel => exact ⟨U / 128, R ++ [U % 128 + 128], by omega, by omega, rfl, by simp, by rw [← HR.out, D_step hU0 hU1 (by omega)]; simp, by simpa using hown2, hb2⟩
                case measure => simp [intOf]; omega
              · go_wp2_with (at_builtin; refine wpList_append_fits _ rfl (.tmp 45) (.tmp 48) 48 rfl w.heap.size 5 i0 1 Tryz.underlying48 hi hz1 w.heap.size R.length T _ rfl (hownR.alloc _) ⟨wr.heap.size, 0, none⟩ 1 1 [.int .u8 U] rfl rfl (one_new _ _ _) (one_cell _ _) hroom ?_; intro w2 hown2 hgrow2)
                have hb2 : Below w.heap.size w w2 := (hnxR.alloc hnxR.size _).grown hgrow2 (by simp; have := hnxR.size; omega) (fun k hk => by cases hk; exact Nat.le_refl _)
                clear hgrow2 hownR
                go_roundw
                case rel => exact ⟨q + 1, R ++ [U], by omega, by go_num, by simp, by rw [← HR.out, D_small (by omega)], by simpa using hown2, hb2⟩
                case measure => simp [intOf]; omega
          · have hqn : q = n := by omega
            have HPE : Hid (P = F zs ls n) := by show P = _; rw [HP.out, hqn]
            have HPT : Hid (P.length = T) := by show P.length = T; rw [HPE.out, HN.out, ← HTT.out]
            clear hqn
            go_wp2
            go_ret
            have e := HPT.out
            rw [e, HPE.out] at hown
            exact ⟨by rw [← e]; rfl, hown, hnx⟩

/-- num.Put, its answer's address under a name of its own. -/
theorem put_own (a al : Option Addr) (zs ls : List Int) (cap capl : Nat) (w : World) (xs : List Int) (n : Nat) (hxs : zs ++ ls.flatMap D = xs) (hn : xs.length = n) (hr : Row .u8 w a zs) (hc : zs.length ≤ cap) (hm : cap ≤ maxLen) (hnil : a = none → cap = 0)
    (hl : Row .u64 w al ls) (hlb : ∀ c ∈ ls, 0 ≤ c ∧ c ≤ 18446744073709551615) (hlc : ls.length ≤ capl) (hlm : capl ≤ maxLen) (hsz : zs.length + 10 * ls.length ≤ 140737488355328) :
    Calls Tryz.prog 36 #[.slice a zs.length cap, .slice al ls.length capl] w fun e w' => ∃ g, e = .returned (.slice (some ⟨g, 0, none⟩) n n) ∧
      w'.ownsRow w.heap.size 5 1 (.slice (some ⟨g, 0, none⟩) n n) n (xs.map (Value.int .u8)) ∧ Below w.heap.size w w' := by
  refine (put_any a al zs ls cap capl w hr hc hm hnil hl hlb hlc hlm hsz).mono ?_
  subst hxs hn
  rintro e w' ⟨rfl, h1, h2⟩
  exact ⟨_, rfl, h1, h2⟩

theorem put_one (v : Int) : ([] : List Int) ++ [v].flatMap D = D v := by simp

end Go.Proofs.YteockpllnhjooaaGreatDoor

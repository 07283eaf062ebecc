/-
  What the laws of layer 9 share: appends of bytes at a step of a drawing region, Put of one number.
-/
import Derived.Test.YtehaeepihjookaaL9Known
import Derived.Test.YtehaeepihjookaaFnChanged
namespace Go.Proofs.Ytehaeepihjookaa
open Go.RowKit NumMath
open DotMath (Dt)
set_option maxRecDepth 100000
set_option linter.unusedVariables false
set_option linter.unusedSimpArgs false

theorem arr_kept {w w' : World} {g t : Nat} {l : List Value} {row : Option Nat} (h : Arr w g t l) (hg : w.grownBy w' row) (hr : row ≠ some g) : Arr w' g t l := by
  unfold Arr
  rw [hg.block g h.lt (fun e => hr e.symm)]
  exact h
theorem row_arr {w : World} {g t : Nat} {k : IntKind} {xs : List Int} (h : Arr w g t (xs.map (Value.int k))) : Row k w (some ⟨g, 0, none⟩) xs := by
  refine .inr ⟨g, 0, rfl, fun i hi => ?_⟩
  rw [Nat.zero_add, Arr.cell h i]
  simp [hi]
theorem bytes_of_own {w : World} {base : Nat} {v : Value} {zs : List Int} (h : BOwn w base v zs) (hb : ∀ c ∈ zs, 0 ≤ c ∧ c ≤ 255) : Bytes w v zs := own_bytes h.own hb
/-- Put, of whatever bytes that lie somewhere and one number. -/
theorem refPut_on (v : Value) (zs : List Int) (g : Nat) (n : Int) (w : World) (hv : Bytes w v zs) (hg : Arr w g 38 [.int .u64 n]) (h0 : 0 ≤ n) (h1 : n ≤ 18446744073709551615) (hl : zs.length ≤ 1000000) :
    Calls Try.prog 19 #[v, .slice (some ⟨g, 0, none⟩) 1 1] w fun e w' => ∃ v', e = .returned v' ∧ BOwn w' w.heap.size v' (zs ++ D n) ∧ (∀ c ∈ zs ++ D n, 0 ≤ c ∧ c ≤ 255) ∧ Below w.heap.size w w' := by
  obtain ⟨a, c, rfl, hr, hb, hc, hm, hn⟩ := hv
  refine (refPut_any a (some ⟨g, 0, none⟩) zs [n] c 1 w hr hc hm hn (row_arr (xs := [n]) hg) (by simp; omega) (by simp) (by decide) (by simp; omega)).mono ?_
  rintro e w' ⟨v', rfl, hown, hbl⟩
  rw [List.flatMap_cons, List.flatMap_nil, List.append_nil] at hown
  refine ⟨v', rfl, ⟨hown⟩, fun c hc => ?_, hbl⟩
  rcases List.mem_append.1 hc with hc | hc
  · exact hb c hc
  · exact D_byte h0 h1 c hc
theorem wp_app_bytes {o : Oper} {a : Act} {w : World} {K : Act → World → Prop} {Q : Exit → Act → World → Prop} (s x : Operand) (ho : o.op = .call { callee := .builtin .append, args := #[s, x], argTypes := #[34, 34] })
    (base : Nat) (v : Value) (zs : List Int) (hs : a.eval s = v) (hown : BOwn w base v zs) (g : Nat) (ys : List Int) (n : Nat) (hn : n = ys.length) (hx : a.eval x = .slice (some ⟨g, 0, none⟩) n n) (hy : Arr w g 5 (ys.map (Value.int .u8))) (hl : zs.length + ys.length ≤ 140737488355328) (hbase : base ≤ w.heap.size)
    (h : ∀ v' w', BOwn w' base v' (zs ++ ys) → w.grownBy w' v.ownBlock → K (a.put o.dst v') w') : o.wp Try.prog a w K Q := by
  subst hn
  obtain ⟨i0, hi, hz0, hz1, hz2⟩ := info_parts Try.info5
  refine wp_append_own w s x 34 ho base 5 i0 (.int .u8 0) 1 1 Try.underlying34 hi hz0 hz1 hz2 rfl (by decide) v zs.length (zs.map (Value.int .u8)) hs hown.own ⟨g, 0, none⟩ ys.length ys.length (ys.map (Value.int .u8)) hx (by simp) ((row_arr (xs := ys) hy).news _ rfl) (ints_oneCell _ _) (by unfold maxLen; omega) (by omega) hbase ?_
  intro v' w' h1 h2 _
  refine h v' w' ⟨?_⟩ h2
  rw [List.length_append, List.map_append]; exact h1

theorem own_byte (w : World) (q : Int) : BOwn (w.alloc (.cells #[.int .u8 q] 5)) w.heap.size (.slice (some ⟨w.heap.size, 0, none⟩) 1 1) [q] :=
  ⟨⟨rfl, .inr ⟨w.heap.size, 1, #[.int .u8 q], rfl, Nat.le_refl _, Arr.new w 5 [.int .u8 q] rfl, by simp, by decide, rfl, rfl⟩⟩⟩

theorem wp_append_own_any {P : Program} {w : World} {o : Oper} {a : Act} {K : Act → World → Prop} {Q : Exit → Act → World → Prop} (s x : Operand) (t : TypeId)
    (ho : o.op = .call { callee := .builtin .append, args := #[s, x], argTypes := #[t, t] })
    (base : Nat) (e : TypeId) (i : TypeInfo) (z : Value) (size bytes : Nat) (ht : P.underlying t = some (.slice e)) (hi : P.info? e = some i) (hz : i.zero = some z)
    (hsize : i.size = size) (hby : i.bytes = bytes) (hzs : z.cells.size = size) (hsz : 0 < size)
    (v : Value) (n : Nat) (xs : List Value) (hs : a.eval s = v) (hown : w.ownsRow base e size v n xs)
    (ao : Option Addr) (m c : Nat) (news : List Value) (hx : a.eval x = .slice ao m c) (hl : news.length = m * size) (hnone : ao = none → m = 0 ∧ c = 0)
    (hnews : ∀ ad, ao = some ad → ∀ j u, news[j]? = some u → w.cell? (ad.add j) = some u) (h1 : ∀ u ∈ news, u.oneCell' = true)
    (h63 : n + m ≤ maxLen) (hbytes : (n + m) * bytes ≤ 140737488355328) (hbase : base ≤ w.heap.size)
    (h : ∀ v' w', w'.ownsRow base e size v' (n + m) (xs ++ news) → w.grownBy w' v.ownBlock → K (a.put o.dst v') w') : o.wp P a w K Q := by
  cases ao with
  | some ad => exact wp_append_own w s x t ho base e i z size bytes ht hi hz hsize hby hzs hsz v n xs hs hown ad m c news hx hl (hnews ad rfl) h1 h63 hbytes hbase (fun v' w' h2 h3 _ => h v' w' h2 h3)
  | none =>
    obtain ⟨rfl, rfl⟩ := hnone rfl
    have hn0 : news = [] := List.eq_nil_of_length_eq_zero (by simpa using hl)
    subst hn0
    have hrun := run_append_owned_none (P := P) (w := w) base t o.type e i size ht hi v n xs hown
    unfold Oper.wp
    simp [execOp, ho, resolve, invoke, builtin, hs, hx, hrun, Result.andThen]
    exact h v w (by simpa using hown) (World.grownBy.refl _ _)
/-- Bytes, wherever they lie, appended onto a row of the call's own, at a step of a drawing region. -/
theorem wp_app_any {o : Oper} {a : Act} {w : World} {K : Act → World → Prop} {Q : Exit → Act → World → Prop} (s x : Operand) (ho : o.op = .call { callee := .builtin .append, args := #[s, x], argTypes := #[34, 34] })
    (base : Nat) (v : Value) (zs : List Int) (hs : a.eval s = v) (hown : BOwn w base v zs) (y : Value) (ys : List Int) (hx : a.eval x = y) (hy : Bytes w y ys) (hl : zs.length + ys.length ≤ 140737488355328) (hbase : base ≤ w.heap.size)
    (h : ∀ v' w', BOwn w' base v' (zs ++ ys) → w.grownBy w' v.ownBlock → K (a.put o.dst v') w') : o.wp Try.prog a w K Q := by
  obtain ⟨i0, hi, hz0, hz1, hz2⟩ := info_parts Try.info5
  obtain ⟨ao, c, rfl, hr, hb, hc, hm, hn⟩ := hy
  refine wp_append_own_any s x 34 ho base 5 i0 (.int .u8 0) 1 1 Try.underlying34 hi hz0 hz1 hz2 rfl (by decide) v zs.length (zs.map (Value.int .u8)) hs hown.own ao ys.length c (ys.map (Value.int .u8)) hx (by simp) (fun e => ⟨by have := hn e; omega, hn e⟩) hr.news (ints_oneCell _ _) (by unfold maxLen; omega) (by omega) hbase ?_
  intro v' w' h1 h2
  refine h v' w' ⟨?_⟩ h2
  rw [List.length_append, List.map_append]; exact h1
end Go.Proofs.Ytehaeepihjookaa

/-
  The block behind a slice of ranges, known whole.
-/
import Derived.Test.YtnkjfenibgiaaaaRngOwn
import Derived.Laws.AppendOwn
import Derived.OwnWalk
namespace Go.Proofs.Ytnkjfenibgiaaaa
open Go.RowKit NumMath
open SpanMath (Rg)
set_option maxRecDepth 100000
set_option linter.unusedVariables false
set_option linter.unusedSimpArgs false

/-- The block behind a slice of the call's own. -/
theorem own_blkG {w : World} {base : Nat} {v : Value} {ds : List Rg} (h : GOwn w base v ds) : (v = .slice none 0 0 ∧ ds = []) ∨
    ∃ g cap rest, v = .slice (some ⟨g, 0, none⟩) ds.length cap ∧ base ≤ g ∧ ds.length ≤ cap ∧ cap ≤ maxLen ∧ Arr w g 24 (flatG ds ++ rest) ∧ (flatG ds ++ rest).length = cap * 2 := by
  rcases h.own.2 with ⟨h2, h3⟩ | ⟨g, cap, cur, hv, hg, hcur, h5, h6, h7, h8⟩
  · exact .inl ⟨h2, List.eq_nil_of_length_eq_zero h3⟩
  · have e : flatG ds ++ cur.toList.drop (ds.length * 2) = cur.toList := by rw [← h8]; exact List.take_append_drop _ _
    refine .inr ⟨g, cap, cur.toList.drop (ds.length * 2), hv, hg, h5, h6, ?_, ?_⟩
    · rw [e]; exact hcur
    · rw [e]; simpa using h7
theorem blk_ownG {w : World} {base g cap : Nat} {ds : List Rg} {rest : List Value} (hg : base ≤ g) (hA : Arr w g 24 (flatG ds ++ rest)) (hl : (flatG ds ++ rest).length = cap * 2) (hc : ds.length ≤ cap) (hm : cap ≤ maxLen) :
    GOwn w base (.slice (some ⟨g, 0, none⟩) ds.length cap) ds := by
  refine ⟨⟨flatG_len ds, .inr ⟨g, cap, (flatG ds ++ rest).toArray, rfl, hg, hA, hc, hm, by simpa using hl, ?_⟩⟩⟩
  rw [← flatG_len ds]; simp
theorem grow_blkG {w : World} {g : Nat} {ds : List Rg} {rest : List Value} (hA : Arr w g 24 (flatG ds ++ rest)) : GRow w (some ⟨g, 0, none⟩) ds :=
  grow_of_cells (fun j u hu => by
    have hj := (List.getElem?_eq_some_iff.1 hu).1
    rw [Nat.zero_add, Arr.cell hA j, List.getElem?_append_left hj]; exact hu)
/-- The cells of the range that stands behind those of A. -/
theorem blk_cells {w : World} {g : Nat} {A : List Rg} {x : Rg} {rest : List Value} (hA : Arr w g 24 (flatG (A ++ [x]) ++ rest)) :
    w.cell? ⟨g, A.length * 2, none⟩ = some (.int .i64 x.f) ∧ w.cell? ⟨g, A.length * 2 + 1, none⟩ = some (.int .i64 x.t) := by
  have h := GRow.cells (grow_blkG hA) (i := A.length) (by simp)
  simpa using h
theorem flat_to (A : List Rg) (x : Rg) (m : Int) (rest : List Value) : (flatG (A ++ [x]) ++ rest).set (A.length * 2 + 1) (.int .i64 m) = flatG (A ++ [⟨x.f, m⟩]) ++ rest := by
  have e1 : flatG (A ++ [x]) ++ rest = flatG A ++ (rgL x ++ rest) := by rw [flatG_append, flatG_cons, flatG_nil]; simp
  have e2 : flatG (A ++ [⟨x.f, m⟩]) ++ rest = flatG A ++ (rgL ⟨x.f, m⟩ ++ rest) := by rw [flatG_append, flatG_cons, flatG_nil]; simp
  rw [e1, e2, List.set_append_right _ _ (by rw [flatG_len]; omega), flatG_len]
  have e3 : A.length * 2 + 1 - A.length * 2 = 1 := by omega
  rw [e3]; rfl
section
variable {ops : Array Oper} {rest : List Oper} {o : Oper} {a : Act} {w : World} {Q : Exit → Act → World → Prop}
/-- append of one range where there is room: the block stays, what stood there is overwritten. -/
theorem wpList_app_roomG (hgd : o.guard = none) (s x : Operand) (ho : o.op = .call { callee := .builtin .append, args := #[s, x], argTypes := #[22, 22] })
    (g n cap c : Nat) (ds : List Rg) (tl : List Value) (hn : n = ds.length) (hs : a.eval s = .slice (some ⟨g, 0, none⟩) n cap) (hA : Arr w g 24 (flatG ds ++ tl)) (ad : Addr) (r : Rg) (hx : a.eval x = .slice (some ad) 1 c) (hr : GRow w (some ad) [r])
    (hroom : n + 1 ≤ cap) (hl : (flatG ds ++ tl).length = cap * 2)
    (h : ∀ w', Arr w' g 24 (flatG (ds ++ [r]) ++ tl.drop 2) → w.grownBy w' (some g) → wpList Try.prog ops Q rest (a.put o.dst (.slice (some ⟨g, 0, none⟩) (n + 1) cap)) w') : wpList Try.prog ops Q (o :: rest) a w := by
  subst hn
  obtain ⟨i0, hi, hz0, hz1, hz2⟩ := info_parts infoRg
  have hg : w.heap[g]? = some (.cells (flatG ds ++ tl).toArray 24 (0, 0)) := hA
  have hl1 : (flatG [r]).length = 1 * i0.size := by rw [flatG_len, hz1]; rfl
  have hfit : ds.length * i0.size + (flatG [r]).length ≤ (flatG ds ++ tl).toArray.size := by
    rw [hz1, flatG_len, List.size_toArray, hl, List.length_singleton]; omega
  have hrun := run_append_room (P := Try.prog) w 22 o.type 24 i0 Try.underlying22 hi g ds.length cap (flatG ds ++ tl).toArray hg ad 1 c (flatG [r]) hl1 (hr.news ad rfl) (flatG_one [r]) hroom hfit
  have e : (flatG ds ++ tl).toArray.toList.take (ds.length * i0.size) ++ flatG [r] ++ (flatG ds ++ tl).toArray.toList.drop (ds.length * i0.size + (flatG [r]).length) = flatG (ds ++ [r]) ++ tl.drop 2 := by
    have e2 : (flatG [r]).length = 2 := by rw [flatG_len]; rfl
    rw [hz1, ← flatG_len ds, flatG_append, e2, ← List.drop_drop, List.take_left, List.drop_left]
  rw [e] at hrun
  refine wpList_plain hgd fun K hK => ?_
  unfold Oper.wp
  simp [execOp, ho, resolve, invoke, builtin, hs, hx, hrun, Result.andThen]
  refine hK _ _ (h _ (Arr.row hA) ⟨rfl, rfl, rfl, by simp [World.setRow], fun k _ hk => setRow_other w g k _ (fun e => hk (by simp [e]))⟩)
end
end Go.Proofs.Ytnkjfenibgiaaaa

/-
  A slice of acts that came in; newsreellaw8.near.
-/
import Derived.Test.YtecijlgkadlmnaaHlcLaws
import Derived.Test.YtecijlgkadlmnaaOpenSt
import Derived.Deep.Cut
namespace Go.Proofs.Ytecijlgkadlmnaa
open Go.RowKit Go.WideShapes Go.ChangeShapes Go.Deep
open StMath (St)
set_option maxRecDepth 100000
set_option linter.unusedVariables false
set_option linter.unusedSimpArgs false

def FitA (a : Ac) : Prop := 0 ≤ a.k ∧ a.k ≤ 255
/-- From address a on these acts lie. -/
def ARow (w : World) (a : Option Addr) (ss : List Ac) : Prop := ss = [] ∨ ∃ b off, a = some ⟨b, off, none⟩ ∧ ∀ i, i < ss.length → w.rangeAt b (off + i * 5) (acL (ss[i]?.getD ac0))
theorem ARow.at {w : World} {a : Option Addr} {ss : List Ac} (h : ARow w a ss) (hn : 0 < ss.length) : ∃ b off, a = some ⟨b, off, none⟩ ∧ ∀ i, i < ss.length → w.rangeAt b (off + i * 5) (acL (ss[i]?.getD ac0)) := by
  rcases h with h | h
  · rw [h] at hn; simp at hn
  · exact h
theorem ac_cells : Try.prog.cellsOf 34 = 5 := by kernel_rfl
theorem open_acs {H : Type} {enc : TypeId × Value → H} {w : World} {base : Nat} {sp : Nat → Bool} {held : Bool} {a : Option Addr} {len cap : Nat} {d : DataW H} {ps : List MemPlace}
    (h : DataW.Trod enc Try.prog w base sp held 22 (.slice a len cap) d ps) : ∃ ss : List Ac, ARow w a ss ∧ ss.length = len ∧ len ≤ cap ∧ cap ≤ maxLen ∧ ∀ s ∈ ss, FitA s := by
  obtain ⟨fuel, hf⟩ := h
  rcases Go.Deep.open_slice Try.underlying22 hf with ⟨hcs, _⟩ | ⟨x, l, c, m, n, D, Pl, hcs, _, hl, hm, hmm, _, hx⟩
  · simp [Value.cells] at hcs
    obtain ⟨rfl, rfl, rfl⟩ := hcs
    exact ⟨[], .inl rfl, rfl, Nat.le_refl _, by decide, by simp⟩
  · simp [Value.cells] at hcs
    obtain ⟨rfl, rfl, rfl⟩ := hcs
    have hlm : len ≤ m := by rw [hmm]; split <;> omega
    have each : ∀ i, i < len → ∃ s : Ac, (∀ j v, (acL s)[j]? = some v → w.cell? (x.add (i * 5 + j)) = some v) ∧ FitA s := by
      intro i hi
      obtain ⟨cs', h1, h2⟩ := hx i (by omega)
      rw [ac_cells] at h1
      obtain ⟨_, hlen, hcell⟩ := World.cells?_some h1
      obtain ⟨ys, k, _, _, _, hyl, hf2⟩ := DataW.trod_struct Try.underlying34 h2
      match cs', hlen with
      | [v0, v1, v2, v3, v4], _ =>
        have g0 := hf2 0 _ rfl
        have g1 := hf2 1 _ rfl
        have g2 := hf2 2 _ rfl
        match ys, hyl with
        | [y0, y1, y2], _ =>
          simp [show Try.prog.cellsOf 2 = 1 by kernel_rfl, show Try.prog.cellsOf 5 = 1 by kernel_rfl, show Try.prog.cellsOf 32 = 3 by kernel_rfl] at g0 g1 g2
          obtain ⟨z0, hz0, _, w0⟩ := DataW.trod_int Try.underlying5 g0
          obtain ⟨z1, hz1, _, w1⟩ := DataW.trod_int Try.underlying2 g1
          obtain ⟨ys2, k2, _, _, _, hyl2, hf3⟩ := DataW.trod_struct Try.underlying32 g2
          have q0 := hf3 0 _ rfl
          have q1 := hf3 1 _ rfl
          have q2 := hf3 2 _ rfl
          match ys2, hyl2 with
          | [x0, x1, x2], _ =>
            simp [show Try.prog.cellsOf 2 = 1 by kernel_rfl, show Try.prog.cellsOf 3 = 1 by kernel_rfl] at q0 q1 q2
            obtain ⟨p0, hp0, _, _⟩ := DataW.trod_int Try.underlying2 q0
            obtain ⟨p1, hp1, _, _⟩ := DataW.trod_int Try.underlying3 q1
            obtain ⟨p2, hp2, _, _⟩ := DataW.trod_int Try.underlying3 q2
            simp at hz0 hz1 hp0 hp1 hp2
            subst hz0 hz1 hp0 hp1 hp2
            refine ⟨⟨z0, z1, ⟨p0, p1, p2⟩⟩, ?_, bounds_u8 w0⟩
            intro j v hj
            have hj3 : j < 5 := by
              have := (List.getElem?_eq_some_iff.1 hj).1
              simpa [acL] using this
            have := hcell j hj3
            rw [add_add] at this
            rw [this]
            exact hj
    obtain ⟨q, hq⟩ := @choose_lt Ac ⟨ac0⟩ _ _ each
    refine ⟨(List.range len).map q, ?_, by simp, hl, hm, ?_⟩
    · by_cases h0 : len = 0
      · left; simp [h0]
      · right
        obtain ⟨b, off, spot⟩ := x
        have h1 := (hq 0 (by omega)).1 0 _ rfl
        have hspot : spot = none := by simpa [Addr.add] using World.cell?_spot h1
        subst hspot
        refine ⟨b, off, rfl, fun i hi => ?_⟩
        simp at hi
        intro j v hj
        have hg : ((List.range len).map q)[i]?.getD ac0 = q i := by simp [hi]
        rw [hg] at hj
        have h2 := (hq i hi).1 j v hj
        rw [Addr.add_lit] at h2
        rw [Nat.add_assoc]
        exact h2
    · intro s hs
      obtain ⟨i, hi, rfl⟩ := List.mem_map.1 hs
      exact (hq i (by simpa using hi)).2

def nearA (a : Ac) : Ac := ⟨a.k, a.n % 16, ⟨a.s.p % 32, a.s.l % 4, a.s.r % 64⟩⟩
theorem near_any (a : Ac) (w : World) : Calls Try.prog 12 #[acV a] w fun e w' => e = .returned (acV (nearA a)) ∧ Below w.heap.size w w' := by
  have HA : Hid (AcAt ((w.alloc (.cells #[.int .u8 a.k, .int .i64 a.n, .int .i64 a.s.p, .int .i64 a.s.l, .int .i64 a.s.r] 34)).alloc (.cells #[.int .u8 0, .int .i64 0, .int .i64 0, .int .i64 0, .int .i64 0] 34)) w.heap.size a) := (AcAt.new w a rfl).alloc _
  have HR : Hid (AcAt ((w.alloc (.cells #[.int .u8 a.k, .int .i64 a.n, .int .i64 a.s.p, .int .i64 a.s.l, .int .i64 a.s.r] 34)).alloc (.cells #[.int .u8 0, .int .i64 0, .int .i64 0, .int .i64 0, .int .i64 0] 34)) (w.heap.size + 1) ac0) := AcAt.new _ ac0 (by simp)
  have HB : Hid (Below w.heap.size w ((w.alloc (.cells #[.int .u8 a.k, .int .i64 a.n, .int .i64 a.s.p, .int .i64 a.s.l, .int .i64 a.s.r] 34)).alloc (.cells #[.int .u8 0, .int .i64 0, .int .i64 0, .int .i64 0, .int .i64 0] 34))) := ((Below.refl _ _).alloc (Nat.le_refl _) _).alloc (by simp) _
  have e1 : bits .and .i64 a.n 15 = a.n % 16 := and15i _
  have e2 : bits .and .i64 a.s.p 31 = a.s.p % 32 := and31i _
  have e3 : bits .and .i64 a.s.l 3 = a.s.l % 4 := and3 _
  have e4 : bits .and .i64 a.s.r 63 = a.s.r % 64 := and63i _
  unfold acV nearA
  dsimp only
  go_enter Try.func12, Try.ntmps12
  go_upto_region 1 with (fail)
  generalize (w.alloc (.cells #[.int .u8 a.k, .int .i64 a.n, .int .i64 a.s.p, .int .i64 a.s.l, .int .i64 a.s.r] 34)).alloc (.cells #[.int .u8 0, .int .i64 0, .int .i64 0, .int .i64 0, .int .i64 0] 34) = w1 at *
  obtain ⟨c0, c1, c2, c3, c4⟩ := HA.out.cells
  go_wp2_with (refine wpList_store_arr rfl 34 (.tmp 2) (.tmp 21) rfl (w.heap.size + 1) 34 (acL ac0) (acL (nearA a)) rfl rfl HR.out.arr sizeAc rfl (acL_one _) ?_)
  exact ret_arr (w.heap.size + 1) 34 (acL (nearA a)) _ rfl rfl (Arr.row HR.out.arr) Try.underlying34 rfl sizeAc rfl ⟨rfl, below_setRow HB.out (by omega) _⟩
end Go.Proofs.Ytecijlgkadlmnaa

/-
  Walks of span.put: a range put behind a list, in memory of the call's own.
-/
import Derived.Test.YtnkjfenibgiaaaaRngBlk
import Derived.Test.YtnkjfenibgiaaaaFnSpanD
import Derived.Test.YtnkjfenibgiaaaaSpanPut
import Derived.Test.YtnkjfenibgiaaaaGrowKit
import Derived.Deep.Cut
namespace Go.Proofs.Ytnkjfenibgiaaaa
open Go.RowKit NumMath
open SpanMath (Rg)
set_option maxRecDepth 100000
set_option linter.unusedVariables false
set_option linter.unusedSimpArgs false

set_option maxHeartbeats 8000000 in
theorem put_store (A : List Rg) (x r : Rg) (rest : List Value) (g cap base : Nat) (w : World) (hbase : base ≤ g) (hA : Arr w g 24 (flatG (A ++ [x]) ++ rest)) (hc : A.length + 1 ≤ cap) (hm : cap ≤ maxLen) (hx : SpanMath.ok x = true) (hr : SpanMath.ok r = true) (hxr : ¬ x.t + 1 < r.f) :
    Calls Try.prog 32 #[.slice (some ⟨g, 0, none⟩) (A.length + 1) cap, .agg #[.int .i64 r.f, .int .i64 r.t]] w fun e w' => e = .returned (.slice (some ⟨g, 0, none⟩) (A.length + 1) cap) ∧ Arr w' g 24 (flatG (A ++ [⟨x.f, max x.t r.t⟩]) ++ rest) ∧ Below base w w' := by
  have hgl := hA.lt
  have HG : Hid (base ≤ g) := hbase
  have HX0 : Hid (RgAt (w.alloc (.cells #[.int .i64 r.f, .int .i64 r.t] 24)) w.heap.size r) := RgAt.new w r rfl
  have hl0 : Below base w (w.alloc (.cells #[.int .i64 r.f, .int .i64 r.t] 24)) := (Below.refl _ _).alloc (by omega) _
  have HB0 : Hid _ := hl0
  have HA0 : Hid (Arr (w.alloc (.cells #[.int .i64 r.f, .int .i64 r.t] 24)) g 24 (flatG (A ++ [x]) ++ rest)) := hA.alloc _
  have HNe : Hid (g ≠ w.heap.size) := by show _ ≠ _; omega
  have HFl : Hid (∀ m : Int, (flatG (A ++ [x]) ++ rest).set (A.length * 2 + 1) (.int .i64 m) = flatG (A ++ [⟨x.f, m⟩]) ++ rest) := fun m => flat_to A x m rest
  have HLt : Hid (A.length * 2 + 1 < (flatG (A ++ [x]) ++ rest).length) := by show _ < _; rw [List.length_append, flatG_len]; simp; omega
  have HCe : Hid (∀ w', Arr w' g 24 (flatG (A ++ [x]) ++ rest) → w'.cell? ⟨g, A.length * 2, none⟩ = some (.int .i64 x.f) ∧ w'.cell? ⟨g, A.length * 2 + 1, none⟩ = some (.int .i64 x.t)) := fun w' h => blk_cells h
  obtain ⟨mx, hmx⟩ : ∃ m : Int, m = max x.t r.t := ⟨_, rfl⟩
  rw [← hmx]
  have hmx' : (if x.t < r.t then r.t else x.t) = mx := by rw [hmx]; split <;> omega
  clear hmx hl0
  have hox := SpanMath.ok_iff.1 hx
  have hor := SpanMath.ok_iff.1 hr
  clear hx hr
  obtain ⟨L, hL⟩ : ∃ L, L = A.length := ⟨_, rfl⟩
  obtain ⟨n, hn⟩ : ∃ n, n = A.length + 1 := ⟨_, rfl⟩
  rw [← hn] at hc ⊢
  rw [← hL] at HFl HLt HCe
  have HLn : Hid (n = L + 1) := by show _ = _; omega
  unfold maxLen at hm
  have eL : IntKind.i64.wrap ((n : Int) - 1) = (L : Int) := by rw [IntKind.wrap_i64]; omega
  have eT : IntKind.i64.wrap (x.t + 1) = x.t + 1 := by rw [IntKind.wrap_i64]; omega
  have b0 : decide ((L : Int) < 0) = false := decide_eq_false (by omega)
  have b1 : decide (x.t + 1 < r.f) = false := decide_eq_false hxr
  have hLn : (L : Int) < (n : Int) := by omega
  have hLc : (L : Int) < (cap : Int) := by omega
  have hL0 : (0 : Int) ≤ (L : Int) := by omega
  clear hn hL hA hgl
  generalize flatG (A ++ [x]) ++ rest = cur at *
  go_enter Try.func32, Try.ntmps32
  go_upto_region 2 with (fail)
  generalize w.alloc (.cells #[.int .i64 r.f, .int .i64 r.t] 24) = w1 at *
  generalize w.heap.size = q at *
  obtain ⟨x0, x1⟩ := HX0.out.cells
  obtain ⟨p0, p1⟩ := HCe.out _ HA0.out
  have hne : Nonempty (Grown1 w1) := ⟨⟨w1, Below.refl _ _⟩⟩
  have x0' := fun u : Grown1 w1 => grown1_cell x0 u
  have x1' := fun u : Grown1 w1 => grown1_cell x1 u
  have p0' := fun u : Grown1 w1 => grown1_cell p0 u
  have p1' := fun u : Grown1 w1 => grown1_cell p1 u
  clear x0 x1 p0 p1
  (try simp only [Act.put])
  refine wp_region_grow (by kernel_rfl) (by kernel_rfl) ?_
  repeat (go_big_quiet_step (fail))
  refine wpQuiet_nil ?_
  intro _ hw'
  obtain ⟨n1, hw''⟩ := hw'
  subst hw''
  have HX1 : Hid (RgAt n1.w q r) := HX0.out.later n1.below HX0.out.lt
  have HA1 : Hid (Arr n1.w g 24 cur) := Arr.later HA0.out n1.below HA0.out.lt
  have HB1 : Hid (Below base w n1.w) := HB0.out.trans (n1.below.mono (Nat.le_trans HG.out (Nat.le_of_lt HA0.out.lt)))
  clear x0' x1' p0' p1' HX0 HA0 HB0
  generalize n1.w = w2 at *
  clear hne n1
  go_upto_region 4 with (fail)
  have HX2 : Hid (RgAt w2.drew q r) := HX1.out.drew
  have HA2 : Hid (Arr w2.drew g 24 cur) := HA1.out
  have HB2 : Hid (Below base w w2.drew) := HB1.out.drew
  clear HX1 HA1 HB1
  obtain ⟨x0, x1⟩ := HX2.out.cells
  obtain ⟨p0, p1⟩ := HCe.out _ HA2.out
  clear x0 p0
  refine wp_region_held_drew (S := fun w' => w'.cell? ⟨q, 1, none⟩ = some (.int .i64 r.t)) (by kernel_rfl) x1 (fun hS => ?_)
  generalize w2.drew = v0 at *
  refine wpAnyH_take (i := 0) (v := ?_) rfl (by kernel_rfl) (by kernel_rfl) (by kernel_rfl) (fun _ _ _ h => h) (Or.inl ⟨by rfl, ?_⟩) hS ?_
  rotate_left 1
  · intro w hSw; (try dsimp only at hSw); go_simp <;> with_reducible rfl
  simp only [List.getElem_toArray, List.getElem_cons_zero, List.getElem_cons_succ, Act.put, List.setIfInBounds_toArray, List.set_cons_zero, List.set_cons_succ]
  refine wpAnyH_take (i := 1) (v := ?_) rfl (by kernel_rfl) (by kernel_rfl) (by kernel_rfl) (fun _ _ _ h => h) (Or.inl ⟨by rfl, ?_⟩) hS ?_
  rotate_left 1
  · intro w hSw; (try dsimp only at hSw); go_simp <;> with_reducible rfl
  simp only [List.getElem_toArray, List.getElem_cons_zero, List.getElem_cons_succ, Act.put, List.setIfInBounds_toArray, List.set_cons_zero, List.set_cons_succ]
  refine wpAnyH_take (i := 2) (v := ?_) rfl (by kernel_rfl) (by kernel_rfl) (by kernel_rfl) (fun _ _ _ h => h) (Or.inl ⟨by rfl, ?_⟩) hS ?_
  rotate_left 1
  · intro w hSw; (try dsimp only at hSw); go_simp <;> with_reducible rfl
  simp only [List.getElem_toArray, List.getElem_cons_zero, List.getElem_cons_succ, Act.put, List.setIfInBounds_toArray, List.set_cons_zero, List.set_cons_succ]
  refine wpAnyH_take (i := 3) (v := ?_) rfl (by kernel_rfl) (by kernel_rfl) (by kernel_rfl) (fun _ _ _ h => h) (Or.inl ⟨by rfl, ?_⟩) hS ?_
  rotate_left 1
  · intro w hSw; (try dsimp only at hSw); go_simp <;> with_reducible rfl
  simp only [List.getElem_toArray, List.getElem_cons_zero, List.getElem_cons_succ, Act.put, List.setIfInBounds_toArray, List.set_cons_zero, List.set_cons_succ]
  refine wpAnyH_take (i := 4) (v := ?_) rfl (by kernel_rfl) (by kernel_rfl) (by kernel_rfl) (fun _ _ _ h => h) (Or.inl ⟨by rfl, ?_⟩) hS ?_
  rotate_left 1
  · intro w hSw; (try dsimp only at hSw); go_simp <;> with_reducible rfl
  simp only [List.getElem_toArray, List.getElem_cons_zero, List.getElem_cons_succ, Act.put, List.setIfInBounds_toArray, List.set_cons_zero, List.set_cons_succ]
  refine wpAnyH_take (i := 5) (v := ?_) rfl (by kernel_rfl) (by kernel_rfl) (by kernel_rfl) (fun _ _ _ h => h) (Or.inl ⟨by rfl, ?_⟩) hS ?_
  rotate_left 1
  · intro w hSw; (try dsimp only at hSw); go_simp <;> with_reducible rfl
  simp only [List.getElem_toArray, List.getElem_cons_zero, List.getElem_cons_succ, Act.put, List.setIfInBounds_toArray, List.set_cons_zero, List.set_cons_succ]
  refine wpAnyH_take (i := 7) (v := ?_) rfl (by kernel_rfl) (by kernel_rfl) (by kernel_rfl) (fun _ _ _ h => h) (Or.inl ⟨by rfl, ?_⟩) hS ?_
  rotate_left 1
  · intro w hSw; (try dsimp only at hSw); go_simp <;> with_reducible rfl
  simp only [List.getElem_toArray, List.getElem_cons_zero, List.getElem_cons_succ, Act.put, List.setIfInBounds_toArray, List.set_cons_zero, List.set_cons_succ]
  refine wpAnyH_take (i := 8) (v := ?_) rfl (by kernel_rfl) (by kernel_rfl) (by kernel_rfl) (fun _ _ _ h => h) (Or.inl ⟨by rfl, ?_⟩) hS ?_
  rotate_left 1
  · intro w hSw; (try dsimp only at hSw); go_simp <;> with_reducible rfl
  simp only [List.getElem_toArray, List.getElem_cons_zero, List.getElem_cons_succ, Act.put, List.setIfInBounds_toArray, List.set_cons_zero, List.set_cons_succ]
  refine wpAnyH_ready (rs := [6]) (by kernel_rfl) (by simp) ?_
  refine AllReadyH.cons rfl (fun K hK => ?_) AllReadyH.nil
  go_simp
  refine hK.out _ _ hS (fun hS => ?_)
  clear hK K
  refine wpAnyH_ready (rs := [9]) (by kernel_rfl) (by simp) ?_
  refine AllReadyH.cons rfl (fun K hK => ?_) AllReadyH.nil
  go_simp
  refine hK.out _ _ hS (fun hS => ?_)
  clear hK K
  refine wpAnyH_take (i := 10) (v := ?_) rfl (by kernel_rfl) (by kernel_rfl) (by kernel_rfl) (fun _ _ _ h => h) (Or.inl ⟨by rfl, ?_⟩) hS ?_
  rotate_left 1
  · intro w hSw; (try dsimp only at hSw); go_simp <;> with_reducible rfl
  simp only [List.getElem_toArray, List.getElem_cons_zero, List.getElem_cons_succ, Act.put, List.setIfInBounds_toArray, List.set_cons_zero, List.set_cons_succ]
  refine wpAnyH_take (i := 11) (v := ?_) rfl (by kernel_rfl) (by kernel_rfl) (by kernel_rfl) (fun _ _ _ h => h) (Or.inl ⟨by rfl, ?_⟩) hS ?_
  rotate_left 1
  · intro w hSw; (try dsimp only at hSw); go_simp <;> with_reducible rfl
  simp only [List.getElem_toArray, List.getElem_cons_zero, List.getElem_cons_succ, Act.put, List.setIfInBounds_toArray, List.set_cons_zero, List.set_cons_succ]
  refine wpAnyH_ready (rs := [12]) (by kernel_rfl) (by simp) ?_
  refine AllReadyH.cons rfl (fun K hK => ?_) AllReadyH.nil
  refine wp_store_cell 2 (.tmp 37) (.tmp 35) rfl g (L * 2 + 1) 24 cur (.int .i64 mx) rfl rfl rfl HA2.out size64 HLt.out rfl ?_
  have HA4 : Hid (Arr (v0.setRow g (cur.set (L * 2 + 1) (.int .i64 mx)).toArray) g 24 (flatG (A ++ [⟨x.f, mx⟩]) ++ rest)) := by rw [← HFl.out mx]; exact Arr.row HA2.out
  have HB4 : Hid (Below base w (v0.setRow g (cur.set (L * 2 + 1) (.int .i64 mx)).toArray)) := below_setRow HB2.out HG.out _
  have HX4 : Hid (RgAt (v0.setRow g (cur.set (L * 2 + 1) (.int .i64 mx)).toArray) q r) := HX2.out.row_other _ HNe.out.symm
  refine hK.out _ _ (HX4.out.cells.2) (fun hS => ?_)
  clear hK K HX2 HA2 HB2 p1
  generalize v0.setRow g (cur.set (L * 2 + 1) (.int .i64 mx)).toArray = v1 at *
  refine wpAnyH_done (by kernel_rfl) ?_ _
  go_wp2
  go_ret
  exact ⟨rfl, HA4.out, HB4.out⟩

set_option maxHeartbeats 8000000 in
theorem put_app_nil_own (r : Rg) (base : Nat) (w : World) (v : Value) (hO : GOwn w base v []) (hb : base ≤ w.heap.size) :
    Calls Try.prog 32 #[v, .agg #[.int .i64 r.f, .int .i64 r.t]] w fun e w' => ∃ v', e = .returned v' ∧ GOwn w' base v' (([] : List Rg) ++ [r]) ∧ Below base w w' := by
  rcases own_blkG hO with ⟨rfl, hnil⟩ | ⟨g, cap, rest, rfl, hg, hc, hm, hA, hl⟩
  · have HBs : Hid (base ≤ w.heap.size) := hb
    have HX0 : Hid (RgAt (w.alloc (.cells #[.int .i64 r.f, .int .i64 r.t] 24)) w.heap.size r) := RgAt.new w r rfl
    have HB0 : Hid (Below base w (w.alloc (.cells #[.int .i64 r.f, .int .i64 r.t] 24))) := (Below.refl _ _).alloc HBs.out _
    have HO0 : Hid (GOwn (w.alloc (.cells #[.int .i64 r.f, .int .i64 r.t] 24)) base _ ([] : List Rg)) := hO.alloc _
    clear hO hnil
    go_enter Try.func32, Try.ntmps32
    go_upto_region 2 with (fail)
    have HS1 : Hid (base ≤ (w.alloc (.cells #[.int .i64 r.f, .int .i64 r.t] 24)).heap.size) := Nat.le_trans HBs.out ((Below.refl w.heap.size w).alloc (Nat.le_refl _) _).size
    generalize w.alloc (.cells #[.int .i64 r.f, .int .i64 r.t] 24) = w1 at *
    generalize w.heap.size = q at *
    have hne : Nonempty (Grown1 w1) := ⟨⟨w1, Below.refl _ _⟩⟩
    (try simp only [Act.put])
    refine wp_region_grow (by kernel_rfl) (by kernel_rfl) ?_
    repeat (go_big_quiet_step (fail))
    refine wpQuiet_nil ?_
    intro _ hw'
    obtain ⟨n1, hw''⟩ := hw'
    subst hw''
    have HX1 : Hid (RgAt n1.w q r) := HX0.out.later n1.below HX0.out.lt
    have HB1 : Hid (Below base w n1.w) := HB0.out.trans (n1.below.mono HS1.out)
    have HO1 : Hid (GOwn n1.w base _ ([] : List Rg)) := HO0.out.later n1.below
    have HS2 : Hid (base ≤ n1.w.heap.size) := Nat.le_trans HS1.out n1.below.size
    clear HX0 HB0 HS1 HO0
    generalize n1.w = w2 at *
    clear hne n1
    have HLi : Hid (GRow (w2.alloc (.cells #[.int .i64 r.f, .int .i64 r.t] 24)) (some ⟨w2.heap.size, 0, none⟩) [r]) := lit_rngs w2 [r] rfl
    have HB3 : Hid (Below base w (w2.alloc (.cells #[.int .i64 r.f, .int .i64 r.t] 24))) := HB1.out.trans ((Below.refl _ _).alloc HS2.out _)
    have HS3 : Hid (base ≤ (w2.alloc (.cells #[.int .i64 r.f, .int .i64 r.t] 24)).heap.size) := Nat.le_trans HS2.out ((Below.refl w2.heap.size w2).alloc (Nat.le_refl _) _).size
    have HO3 : Hid (GOwn (w2.alloc (.cells #[.int .i64 r.f, .int .i64 r.t] 24)) base _ ([] : List Rg)) := HO1.out.alloc _
    obtain ⟨x0, x1⟩ := HX1.out.cells
    go_wp2_with (at_builtin; refine wpList_app_rngs rfl _ _ rfl base _ ([] : List Rg) rfl HO3.out (some ⟨w2.heap.size, 0, none⟩) 1 [r] 1 rfl rfl HLi.out (by simp) (Nat.le_refl _) (by simp) HS3.out ?_; intro v4 w4 hown4 hgrow4)
    have HB4 : Hid (Below base w w4) := HB3.out.trans ((Below.refl _ _).grown hgrow4 HS3.out (fun q hq => (HO3.out.lt q hq).1))
    have HO4 : Hid _ := hown4
    clear hown4 hgrow4
    go_wp2
    go_ret
    exact ⟨_, rfl, HO4.out, HB4.out⟩
  · have HBs : Hid (base ≤ w.heap.size) := hb
    have HX0 : Hid (RgAt (w.alloc (.cells #[.int .i64 r.f, .int .i64 r.t] 24)) w.heap.size r) := RgAt.new w r rfl
    have HB0 : Hid (Below base w (w.alloc (.cells #[.int .i64 r.f, .int .i64 r.t] 24))) := (Below.refl _ _).alloc HBs.out _
    have HO0 : Hid (GOwn (w.alloc (.cells #[.int .i64 r.f, .int .i64 r.t] 24)) base _ ([] : List Rg)) := hO.alloc _
    clear hO hA hl hc hm hg
    go_enter Try.func32, Try.ntmps32
    go_upto_region 2 with (fail)
    have HS1 : Hid (base ≤ (w.alloc (.cells #[.int .i64 r.f, .int .i64 r.t] 24)).heap.size) := Nat.le_trans HBs.out ((Below.refl w.heap.size w).alloc (Nat.le_refl _) _).size
    generalize w.alloc (.cells #[.int .i64 r.f, .int .i64 r.t] 24) = w1 at *
    generalize w.heap.size = q at *
    have hne : Nonempty (Grown1 w1) := ⟨⟨w1, Below.refl _ _⟩⟩
    (try simp only [Act.put])
    refine wp_region_grow (by kernel_rfl) (by kernel_rfl) ?_
    repeat (go_big_quiet_step (fail))
    refine wpQuiet_nil ?_
    intro _ hw'
    obtain ⟨n1, hw''⟩ := hw'
    subst hw''
    have HX1 : Hid (RgAt n1.w q r) := HX0.out.later n1.below HX0.out.lt
    have HB1 : Hid (Below base w n1.w) := HB0.out.trans (n1.below.mono HS1.out)
    have HO1 : Hid (GOwn n1.w base _ ([] : List Rg)) := HO0.out.later n1.below
    have HS2 : Hid (base ≤ n1.w.heap.size) := Nat.le_trans HS1.out n1.below.size
    clear HX0 HB0 HS1 HO0
    generalize n1.w = w2 at *
    clear hne n1
    have HLi : Hid (GRow (w2.alloc (.cells #[.int .i64 r.f, .int .i64 r.t] 24)) (some ⟨w2.heap.size, 0, none⟩) [r]) := lit_rngs w2 [r] rfl
    have HB3 : Hid (Below base w (w2.alloc (.cells #[.int .i64 r.f, .int .i64 r.t] 24))) := HB1.out.trans ((Below.refl _ _).alloc HS2.out _)
    have HS3 : Hid (base ≤ (w2.alloc (.cells #[.int .i64 r.f, .int .i64 r.t] 24)).heap.size) := Nat.le_trans HS2.out ((Below.refl w2.heap.size w2).alloc (Nat.le_refl _) _).size
    have HO3 : Hid (GOwn (w2.alloc (.cells #[.int .i64 r.f, .int .i64 r.t] 24)) base _ ([] : List Rg)) := HO1.out.alloc _
    obtain ⟨x0, x1⟩ := HX1.out.cells
    go_wp2_with (at_builtin; refine wpList_app_rngs rfl _ _ rfl base _ ([] : List Rg) rfl HO3.out (some ⟨w2.heap.size, 0, none⟩) 1 [r] 1 rfl rfl HLi.out (by simp) (Nat.le_refl _) (by simp) HS3.out ?_; intro v4 w4 hown4 hgrow4)
    have HB4 : Hid (Below base w w4) := HB3.out.trans ((Below.refl _ _).grown hgrow4 HS3.out (fun q hq => (HO3.out.lt q hq).1))
    have HO4 : Hid _ := hown4
    clear hown4 hgrow4
    go_wp2
    go_ret
    exact ⟨_, rfl, HO4.out, HB4.out⟩

set_option maxHeartbeats 8000000 in
theorem put_app_snoc_own (A : List Rg) (x r : Rg) (base : Nat) (w : World) (v : Value) (hO : GOwn w base v (A ++ [x])) (hb : base ≤ w.heap.size) (hlim : A.length < 1099511627776) (hx : SpanMath.ok x = true) (hr : SpanMath.ok r = true) (hxr : x.t + 1 < r.f) :
    Calls Try.prog 32 #[v, .agg #[.int .i64 r.f, .int .i64 r.t]] w fun e w' => ∃ v', e = .returned v' ∧ GOwn w' base v' ((A ++ [x]) ++ [r]) ∧ Below base w w' := by
  rcases own_blkG hO with ⟨rfl, hnil⟩ | ⟨g, cap, rest, rfl, hg, hc, hm, hA, hl⟩
  · exact absurd hnil (by simp)
  · have HBs : Hid (base ≤ w.heap.size) := hb
    have HX0 : Hid (RgAt (w.alloc (.cells #[.int .i64 r.f, .int .i64 r.t] 24)) w.heap.size r) := RgAt.new w r rfl
    have HB0 : Hid (Below base w (w.alloc (.cells #[.int .i64 r.f, .int .i64 r.t] 24))) := (Below.refl _ _).alloc HBs.out _
    have HO0 : Hid (GOwn (w.alloc (.cells #[.int .i64 r.f, .int .i64 r.t] 24)) base _ (A ++ [x])) := hO.alloc _
    have HCe : Hid (∀ w', Arr w' g 24 (flatG (A ++ [x]) ++ rest) → w'.cell? ⟨g, A.length * 2, none⟩ = some (.int .i64 x.f) ∧ w'.cell? ⟨g, A.length * 2 + 1, none⟩ = some (.int .i64 x.t)) := fun w' h => blk_cells h
    have HA0 : Hid (Arr (w.alloc (.cells #[.int .i64 r.f, .int .i64 r.t] 24)) g 24 (flatG (A ++ [x]) ++ rest)) := hA.alloc _
    have hox := SpanMath.ok_iff.1 hx
    have hor := SpanMath.ok_iff.1 hr
    have HDl : Hid ((A ++ [x]).length = A.length + 1) := by show _ = _; simp
    rw [HDl.out] at hc HO0 ⊢
    obtain ⟨L, hL⟩ : ∃ L, L = A.length := ⟨_, rfl⟩
    obtain ⟨n, hn⟩ : ∃ n, n = A.length + 1 := ⟨_, rfl⟩
    rw [← hn] at hc HO0 HDl ⊢
    rw [← hL] at HCe
    rw [← hL] at hlim
    unfold maxLen at hm
    have HLim : Hid ((A ++ [x]).length + [r].length ≤ 8796093022208) := by show _ ≤ _; rw [HDl.out]; simp; omega
    have eL : IntKind.i64.wrap ((n : Int) - 1) = (L : Int) := by rw [IntKind.wrap_i64]; omega
    have eT : IntKind.i64.wrap (x.t + 1) = x.t + 1 := by rw [IntKind.wrap_i64]; omega
    have b0 : decide ((L : Int) < 0) = false := decide_eq_false (by omega)
    have b1 : decide (x.t + 1 < r.f) = true := decide_eq_true hxr
    have hLn : (L : Int) < (n : Int) := by omega
    have hLc : (L : Int) < (cap : Int) := by omega
    have hL0 : (0 : Int) ≤ (L : Int) := by omega
    clear hn hL hA hxr hx hr hox hor hO hl hc hm hlim
    go_enter Try.func32, Try.ntmps32
    go_upto_region 2 with (fail)
    have HS1 : Hid (base ≤ (w.alloc (.cells #[.int .i64 r.f, .int .i64 r.t] 24)).heap.size) := Nat.le_trans HBs.out ((Below.refl w.heap.size w).alloc (Nat.le_refl _) _).size
    generalize w.alloc (.cells #[.int .i64 r.f, .int .i64 r.t] 24) = w1 at *
    generalize w.heap.size = q at *
    obtain ⟨x0, x1⟩ := HX0.out.cells
    obtain ⟨p0, p1⟩ := HCe.out _ HA0.out
    have hne : Nonempty (Grown1 w1) := ⟨⟨w1, Below.refl _ _⟩⟩
    have x0' := fun u : Grown1 w1 => grown1_cell x0 u
    have x1' := fun u : Grown1 w1 => grown1_cell x1 u
    have p0' := fun u : Grown1 w1 => grown1_cell p0 u
    have p1' := fun u : Grown1 w1 => grown1_cell p1 u
    clear x0 x1 p0 p1
    (try simp only [Act.put])
    refine wp_region_grow (by kernel_rfl) (by kernel_rfl) ?_
    repeat (go_big_quiet_step (fail))
    refine wpQuiet_nil ?_
    intro _ hw'
    obtain ⟨n1, hw''⟩ := hw'
    subst hw''
    have HX1 : Hid (RgAt n1.w q r) := HX0.out.later n1.below HX0.out.lt
    have HB1 : Hid (Below base w n1.w) := HB0.out.trans (n1.below.mono HS1.out)
    have HO1 : Hid (GOwn n1.w base _ (A ++ [x])) := HO0.out.later n1.below
    have HS2 : Hid (base ≤ n1.w.heap.size) := Nat.le_trans HS1.out n1.below.size
    clear HX0 HB0 HS1 HO0 HA0 HCe x0' x1' p0' p1'
    generalize n1.w = w2 at *
    clear hne n1
    have HLi : Hid (GRow (w2.alloc (.cells #[.int .i64 r.f, .int .i64 r.t] 24)) (some ⟨w2.heap.size, 0, none⟩) [r]) := lit_rngs w2 [r] rfl
    have HB3 : Hid (Below base w (w2.alloc (.cells #[.int .i64 r.f, .int .i64 r.t] 24))) := HB1.out.trans ((Below.refl _ _).alloc HS2.out _)
    have HS3 : Hid (base ≤ (w2.alloc (.cells #[.int .i64 r.f, .int .i64 r.t] 24)).heap.size) := Nat.le_trans HS2.out ((Below.refl w2.heap.size w2).alloc (Nat.le_refl _) _).size
    have HO3 : Hid (GOwn (w2.alloc (.cells #[.int .i64 r.f, .int .i64 r.t] 24)) base _ (A ++ [x])) := HO1.out.alloc _
    obtain ⟨x0, x1⟩ := HX1.out.cells
    go_wp2_with (at_builtin; refine wpList_app_rngs rfl _ _ rfl base _ (A ++ [x]) rfl HO3.out (some ⟨w2.heap.size, 0, none⟩) 1 [r] 1 rfl rfl HLi.out (by simp) (Nat.le_refl _) HLim.out HS3.out ?_; intro v4 w4 hown4 hgrow4)
    have HB4 : Hid (Below base w w4) := HB3.out.trans ((Below.refl _ _).grown hgrow4 HS3.out (fun q hq => (HO3.out.lt q hq).1))
    have HO4 : Hid _ := hown4
    clear hown4 hgrow4
    go_wp2
    go_ret
    exact ⟨_, rfl, HO4.out, HB4.out⟩

set_option maxHeartbeats 8000000 in
theorem put_app_nil_blk (r : Rg) (rest : List Value) (g cap base : Nat) (w : World) (hbase : base ≤ g) (hA : Arr w g 24 (flatG [] ++ rest)) (hl : (flatG [] ++ rest).length = cap * 2) (hroom : 0 < cap) (hm : cap ≤ maxLen) :
    Calls Try.prog 32 #[.slice (some ⟨g, 0, none⟩) 0 cap, .agg #[.int .i64 r.f, .int .i64 r.t]] w fun e w' => e = .returned (.slice (some ⟨g, 0, none⟩) 1 cap) ∧ Arr w' g 24 (flatG (([] : List Rg) ++ [r]) ++ rest.drop 2) ∧ Below base w w' := by
  have hgl := hA.lt
  have HBs : Hid (base ≤ w.heap.size) := by show _ ≤ _; omega
  have HG : Hid (base ≤ g) := hbase
  have HX0 : Hid (RgAt (w.alloc (.cells #[.int .i64 r.f, .int .i64 r.t] 24)) w.heap.size r) := RgAt.new w r rfl
  have HB0 : Hid (Below base w (w.alloc (.cells #[.int .i64 r.f, .int .i64 r.t] 24))) := (Below.refl _ _).alloc HBs.out _
  have HA0 : Hid (Arr (w.alloc (.cells #[.int .i64 r.f, .int .i64 r.t] 24)) g 24 (flatG ([] : List Rg) ++ rest)) := hA.alloc _
  have HLl : Hid ((flatG ([] : List Rg) ++ rest).length = cap * 2) := hl
  clear hA hl hm hgl
  go_enter Try.func32, Try.ntmps32
  go_upto_region 2 with (fail)
  have HS1 : Hid (base ≤ (w.alloc (.cells #[.int .i64 r.f, .int .i64 r.t] 24)).heap.size) := Nat.le_trans HBs.out ((Below.refl w.heap.size w).alloc (Nat.le_refl _) _).size
  generalize w.alloc (.cells #[.int .i64 r.f, .int .i64 r.t] 24) = w1 at *
  generalize w.heap.size = q at *
  have hne : Nonempty (Grown1 w1) := ⟨⟨w1, Below.refl _ _⟩⟩
  (try simp only [Act.put])
  refine wp_region_grow (by kernel_rfl) (by kernel_rfl) ?_
  repeat (go_big_quiet_step (fail))
  refine wpQuiet_nil ?_
  intro _ hw'
  obtain ⟨n1, hw''⟩ := hw'
  subst hw''
  have HX1 : Hid (RgAt n1.w q r) := HX0.out.later n1.below HX0.out.lt
  have HB1 : Hid (Below base w n1.w) := HB0.out.trans (n1.below.mono HS1.out)
  have HA1 : Hid (Arr n1.w g 24 (flatG ([] : List Rg) ++ rest)) := Arr.later HA0.out n1.below HA0.out.lt
  have HS2 : Hid (base ≤ n1.w.heap.size) := Nat.le_trans HS1.out n1.below.size
  clear HX0 HB0 HS1 HA0
  generalize n1.w = w2 at *
  clear hne n1
  have HLi : Hid (GRow (w2.alloc (.cells #[.int .i64 r.f, .int .i64 r.t] 24)) (some ⟨w2.heap.size, 0, none⟩) [r]) := lit_rngs w2 [r] rfl
  have HB3 : Hid (Below base w (w2.alloc (.cells #[.int .i64 r.f, .int .i64 r.t] 24))) := HB1.out.trans ((Below.refl _ _).alloc HS2.out _)
  have HS3 : Hid (base ≤ (w2.alloc (.cells #[.int .i64 r.f, .int .i64 r.t] 24)).heap.size) := Nat.le_trans HS2.out ((Below.refl w2.heap.size w2).alloc (Nat.le_refl _) _).size
  have HA3 : Hid (Arr (w2.alloc (.cells #[.int .i64 r.f, .int .i64 r.t] 24)) g 24 (flatG ([] : List Rg) ++ rest)) := HA1.out.alloc _
  obtain ⟨x0, x1⟩ := HX1.out.cells
  go_wp2_with (at_builtin; refine wpList_app_roomG rfl _ _ rfl g 0 cap 1 ([] : List Rg) rest rfl rfl HA3.out ⟨w2.heap.size, 0, none⟩ r rfl HLi.out (by omega) HLl.out ?_; intro w4 hA4 hgrow4)
  have HB4 : Hid (Below base w w4) := HB3.out.trans ((Below.refl _ _).grown hgrow4 HS3.out (fun k hk => by injection hk with hk; have := HG.out; omega))
  have HA4 : Hid _ := hA4
  clear hA4 hgrow4
  go_wp2
  go_ret
  exact ⟨rfl, HA4.out, HB4.out⟩

set_option maxHeartbeats 8000000 in
theorem put_app_snoc_blk (A : List Rg) (x r : Rg) (rest : List Value) (g cap base : Nat) (w : World) (hbase : base ≤ g) (hA : Arr w g 24 (flatG (A ++ [x]) ++ rest)) (hl : (flatG (A ++ [x]) ++ rest).length = cap * 2) (hroom : A.length + 1 < cap) (hm : cap ≤ maxLen) (hx : SpanMath.ok x = true) (hr : SpanMath.ok r = true) (hxr : x.t + 1 < r.f) :
    Calls Try.prog 32 #[.slice (some ⟨g, 0, none⟩) (A.length + 1) cap, .agg #[.int .i64 r.f, .int .i64 r.t]] w fun e w' => e = .returned (.slice (some ⟨g, 0, none⟩) (A.length + 1 + 1) cap) ∧ Arr w' g 24 (flatG ((A ++ [x]) ++ [r]) ++ rest.drop 2) ∧ Below base w w' := by
  have hgl := hA.lt
  have HBs : Hid (base ≤ w.heap.size) := by show _ ≤ _; omega
  have HG : Hid (base ≤ g) := hbase
  have HX0 : Hid (RgAt (w.alloc (.cells #[.int .i64 r.f, .int .i64 r.t] 24)) w.heap.size r) := RgAt.new w r rfl
  have HB0 : Hid (Below base w (w.alloc (.cells #[.int .i64 r.f, .int .i64 r.t] 24))) := (Below.refl _ _).alloc HBs.out _
  have HA0 : Hid (Arr (w.alloc (.cells #[.int .i64 r.f, .int .i64 r.t] 24)) g 24 (flatG (A ++ [x]) ++ rest)) := hA.alloc _
  have HLl : Hid ((flatG (A ++ [x]) ++ rest).length = cap * 2) := hl
  have HCe : Hid (∀ w', Arr w' g 24 (flatG (A ++ [x]) ++ rest) → w'.cell? ⟨g, A.length * 2, none⟩ = some (.int .i64 x.f) ∧ w'.cell? ⟨g, A.length * 2 + 1, none⟩ = some (.int .i64 x.t)) := fun w' h => blk_cells h
  have hox := SpanMath.ok_iff.1 hx
  have hor := SpanMath.ok_iff.1 hr
  have HDl : Hid ((A ++ [x]).length = A.length + 1) := by show _ = _; simp
  obtain ⟨L, hL⟩ : ∃ L, L = A.length := ⟨_, rfl⟩
  obtain ⟨n, hn⟩ : ∃ n, n = A.length + 1 := ⟨_, rfl⟩
  rw [← hn] at hroom HDl ⊢
  rw [← hL] at HCe
  unfold maxLen at hm
  have eL : IntKind.i64.wrap ((n : Int) - 1) = (L : Int) := by rw [IntKind.wrap_i64]; omega
  have eT : IntKind.i64.wrap (x.t + 1) = x.t + 1 := by rw [IntKind.wrap_i64]; omega
  have b0 : decide ((L : Int) < 0) = false := decide_eq_false (by omega)
  have b1 : decide (x.t + 1 < r.f) = true := decide_eq_true hxr
  have hLn : (L : Int) < (n : Int) := by omega
  have hLc : (L : Int) < (cap : Int) := by omega
  have hL0 : (0 : Int) ≤ (L : Int) := by omega
  clear hn hL hA hxr hx hr hox hor hl hm hgl
  go_enter Try.func32, Try.ntmps32
  go_upto_region 2 with (fail)
  have HS1 : Hid (base ≤ (w.alloc (.cells #[.int .i64 r.f, .int .i64 r.t] 24)).heap.size) := Nat.le_trans HBs.out ((Below.refl w.heap.size w).alloc (Nat.le_refl _) _).size
  generalize w.alloc (.cells #[.int .i64 r.f, .int .i64 r.t] 24) = w1 at *
  generalize w.heap.size = q at *
  obtain ⟨x0, x1⟩ := HX0.out.cells
  obtain ⟨p0, p1⟩ := HCe.out _ HA0.out
  have hne : Nonempty (Grown1 w1) := ⟨⟨w1, Below.refl _ _⟩⟩
  have x0' := fun u : Grown1 w1 => grown1_cell x0 u
  have x1' := fun u : Grown1 w1 => grown1_cell x1 u
  have p0' := fun u : Grown1 w1 => grown1_cell p0 u
  have p1' := fun u : Grown1 w1 => grown1_cell p1 u
  clear x0 x1 p0 p1
  (try simp only [Act.put])
  refine wp_region_grow (by kernel_rfl) (by kernel_rfl) ?_
  repeat (go_big_quiet_step (fail))
  refine wpQuiet_nil ?_
  intro _ hw'
  obtain ⟨n1, hw''⟩ := hw'
  subst hw''
  have HX1 : Hid (RgAt n1.w q r) := HX0.out.later n1.below HX0.out.lt
  have HB1 : Hid (Below base w n1.w) := HB0.out.trans (n1.below.mono HS1.out)
  have HA1 : Hid (Arr n1.w g 24 (flatG (A ++ [x]) ++ rest)) := Arr.later HA0.out n1.below HA0.out.lt
  have HS2 : Hid (base ≤ n1.w.heap.size) := Nat.le_trans HS1.out n1.below.size
  clear HX0 HB0 HS1 HA0 HCe x0' x1' p0' p1'
  generalize n1.w = w2 at *
  clear hne n1
  have HLi : Hid (GRow (w2.alloc (.cells #[.int .i64 r.f, .int .i64 r.t] 24)) (some ⟨w2.heap.size, 0, none⟩) [r]) := lit_rngs w2 [r] rfl
  have HB3 : Hid (Below base w (w2.alloc (.cells #[.int .i64 r.f, .int .i64 r.t] 24))) := HB1.out.trans ((Below.refl _ _).alloc HS2.out _)
  have HS3 : Hid (base ≤ (w2.alloc (.cells #[.int .i64 r.f, .int .i64 r.t] 24)).heap.size) := Nat.le_trans HS2.out ((Below.refl w2.heap.size w2).alloc (Nat.le_refl _) _).size
  have HA3 : Hid (Arr (w2.alloc (.cells #[.int .i64 r.f, .int .i64 r.t] 24)) g 24 (flatG (A ++ [x]) ++ rest)) := HA1.out.alloc _
  obtain ⟨x0, x1⟩ := HX1.out.cells
  go_wp2_with (at_builtin; refine wpList_app_roomG rfl _ _ rfl g n cap 1 (A ++ [x]) rest HDl.out.symm rfl HA3.out ⟨w2.heap.size, 0, none⟩ r rfl HLi.out (by omega) HLl.out ?_; intro w4 hA4 hgrow4)
  have HB4 : Hid (Below base w w4) := HB3.out.trans ((Below.refl _ _).grown hgrow4 HS3.out (fun k hk => by injection hk with hk; have := HG.out; omega))
  have HA4 : Hid _ := hA4
  clear hA4 hgrow4
  go_wp2
  go_ret
  exact ⟨rfl, HA4.out, HB4.out⟩
end Go.Proofs.Ytnkjfenibgiaaaa

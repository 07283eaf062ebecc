/-
  Walk of newsreellaw3.ShaLess.
-/
import Derived.Test.YtfgpoclflikhmaaDoorL3Known
import Derived.Test.YtfgpoclflikhmaaDoorFillKit
namespace Go.Proofs.YtfgpoclflikhmaaDoor
open Go.RowKit NumMath
set_option maxRecDepth 100000
set_option linter.unusedVariables false
set_option linter.unusedSimpArgs false
attribute [-simp] Tryd.isAgg49 Tryd.zeroValue49 Tryd.isAgg26 Tryd.zeroValue26 Tryd.isAgg51 Tryd.isAgg40 Tryd.zeroValue40

theorem wpList_buildSlice41 {ops : Array Oper} {rest : List Oper} {op : Oper} {a : Act} {w : World} {Q : Exit → Act → World → Prop} (hgd : op.guard = none) (n : Nat) (parts : Array (Nat × Operand)) (ho : op.op = .buildSlice 41 n parts)
    (Ls : List (List Value)) (hv : (parts.map fun (i, x) => (i, a.eval x)) = (partsFrom 0 Ls).toArray) (hn : Ls.length = n) (hp : 0 < n) (h100 : n ≤ 100) (h64 : ∀ L ∈ Ls, L.length = 64)
    (h : wpList Tryd.prog ops Q rest (a.put op.dst (.slice (some ⟨w.heap.size, 0, none⟩) n n)) (w.alloc (.cells Ls.flatten.toArray 40))) : wpList Tryd.prog ops Q (op :: rest) a w := by
  refine wpList_plain hgd fun K hK => ?_
  unfold Oper.wp execOp
  simp only [ho, hv, Sem.run_bind, Sem.run_pure, Result.andThen_ok, run_buildSlice41 w Ls n hn hp h100 h64]
  exact hK _ _ h
theorem flat_get : ∀ (Ls : List (List Value)) (k j : Nat), (∀ L ∈ Ls, L.length = 64) → k < Ls.length → j < 64 → Ls.flatten[64 * k + j]? = (Ls[k]?.getD [])[j]?
  | [], k, j, _, h, _ => by simp at h
  | L :: Ls, 0, j, hl, _, hj => by
    have : L.length = 64 := hl L (by simp)
    simp [List.getElem?_append_left, this, hj]
  | L :: Ls, k + 1, j, hl, hk, hj => by
    have h0 : L.length = 64 := hl L (by simp)
    have := flat_get Ls k j (fun L' h' => hl L' (by simp [h'])) (by simpa using hk) hj
    rw [List.flatten_cons, List.getElem?_append_right (by omega), h0, show 64 * (k + 1) + j - 64 = 64 * k + j by omega, this]
    simp

/-- The pairs that are asked. -/
def pairs (xs ys d : List Nat) : List (List Nat × List Nat) := [(xs, ys), (ys, xs), (xs, xs), (xs, d), (d, xs)]
theorem pairs_ok {xs ys d : List Nat} (h1 : xs.length = 32 ∧ ∀ c ∈ xs, c < 256) (h2 : ys.length = 32 ∧ ∀ c ∈ ys, c < 256) (h3 : d.length = 32 ∧ ∀ c ∈ d, c < 256) :
    ∀ p ∈ pairs xs ys d, (p.1.length = 32 ∧ ∀ c ∈ p.1, c < 256) ∧ (p.2.length = 32 ∧ ∀ c ∈ p.2, c < 256) := by
  intro p hp
  simp [pairs] at hp
  rcases hp with rfl | rfl | rfl | rfl | rfl
  · exact ⟨h1, h2⟩
  · exact ⟨h2, h1⟩
  · exact ⟨h1, h1⟩
  · exact ⟨h1, h3⟩
  · exact ⟨h3, h1⟩

set_option maxRecDepth 4000 in
set_option maxHeartbeats 8000000 in
theorem shaLess_walk (xs ys zs : List Nat) (n3 n4 : Int) (W : World) (ht : Tabs W) (hx : xs.length = 32) (bx : ∀ c ∈ xs, c < 256) (hy : ys.length = 32) (yb : ∀ c ∈ ys, c < 256) (hz : zs.length = 32) (bz : ∀ c ∈ zs, c < 256) (w3 : (Lit.int .u8 n3).wf = true) (w4 : (Lit.int .u8 n4).wf = true) :
    Calls Tryd.prog 7 #[.agg (u8v xs).toArray, .agg (u8v ys).toArray, .agg (u8v zs).toArray, .int .u8 n3, .int .u8 n4] W fun e W' => e = .returned (.bool true) ∧ Below W.heap.size W W' := by
  obtain ⟨z26, i26⟩ := zero_of_info zero26
  obtain ⟨Z, hZ⟩ : ∃ Z, Z = u8v (List.replicate 32 0) := ⟨_, rfl⟩
  rw [← hZ] at z26
  have HLZ : Hid (Z.length = 32) := by show _ = _; rw [hZ, u8v_len]; simp
  obtain ⟨z40, i40⟩ := zero_of_info zero40
  obtain ⟨Z2, hZ2⟩ : ∃ Z, Z = u8v (List.replicate 64 0) := ⟨_, rfl⟩
  rw [← hZ2] at z40
  have HLZ2 : Hid (Z2.length = 64) := by show _ = _; rw [hZ2, u8v_len]; simp
  obtain ⟨at_, rfl⟩ : ∃ m : Nat, n3 = m := ⟨n3.toNat, by have := bounds_u8 w3; omega⟩
  obtain ⟨b, rfl⟩ : ∃ m : Nat, n4 = m := ⟨n4.toNat, by have := bounds_u8 w4; omega⟩
  have hat : at_ ≤ 255 := by have := bounds_u8 w3; omega
  have hbb : b ≤ 255 := by have := bounds_u8 w4; omega
  obtain ⟨q, hq1, hq⟩ : ∃ q : Nat, (at_ : Int) % 32 = (q : Int) ∧ q = at_ % 32 := ⟨at_ % 32, by omega, rfl⟩
  have hq1T : (at_ : Int).tmod 32 = (q : Int) := by rw [Int.tmod_eq_emod_of_nonneg (by omega)]; exact hq1
  have hql : q < 32 := by omega
  have hqI : (q : Int) < 32 := by omega
  have HX0 : Hid (xs.length = 32 ∧ ∀ c ∈ xs, c < 256) := ⟨hx, bx⟩
  have HY0 : Hid (ys.length = 32 ∧ ∀ c ∈ ys, c < 256) := ⟨hy, yb⟩
  have HZ0 : Hid (zs.length = 32 ∧ ∀ c ∈ zs, c < 256) := ⟨hz, bz⟩
  have HD0 : Hid ((xs.set q b).length = 32 ∧ ∀ c ∈ xs.set q b, c < 256) := by
    refine ⟨by rw [List.length_set]; exact hx, fun c hc => ?_⟩
    rcases List.mem_or_eq_of_mem_set hc with h | h
    · exact bx c h
    · omega
  obtain ⟨d, hd⟩ : ∃ d, d = xs.set q b := ⟨_, rfl⟩
  rw [← hd] at HD0
  have HDD : Hid _ := hd
  obtain ⟨X, hX⟩ : ∃ X, X = u8v xs := ⟨_, rfl⟩
  obtain ⟨Y, hY⟩ : ∃ X, X = u8v ys := ⟨_, rfl⟩
  obtain ⟨V, hV⟩ : ∃ X, X = u8v zs := ⟨_, rfl⟩
  obtain ⟨E, hE⟩ : ∃ X, X = u8v d := ⟨_, rfl⟩
  have HLX : Hid (X.length = 32) := by show _ = _; rw [hX, u8v_len, hx]
  have HLY : Hid (Y.length = 32) := by show _ = _; rw [hY, u8v_len, hy]
  have HLV : Hid (V.length = 32) := by show _ = _; rw [hV, u8v_len, hz]
  have HLE : Hid (E.length = 32) := by show _ = _; rw [hE, u8v_len]; exact HD0.out.1
  have HOX : Hid (∀ v ∈ X, v.oneCell' = true) := by rw [hX]; exact u8v_one _
  have HLS : Hid ((∀ w, Calls Tryd.prog 18 #[.agg X.toArray, .agg Y.toArray] w fun e w' => e = .returned (.bool (ShaMath.lexLt xs ys)) ∧ Below w.heap.size w w') ∧ (∀ w, Calls Tryd.prog 18 #[.agg Y.toArray, .agg V.toArray] w fun e w' => e = .returned (.bool (ShaMath.lexLt ys zs)) ∧ Below w.heap.size w w') ∧ (∀ w, Calls Tryd.prog 18 #[.agg X.toArray, .agg V.toArray] w fun e w' => e = .returned (.bool (ShaMath.lexLt xs zs)) ∧ Below w.heap.size w w')) := by
    rw [hX, hY, hV]
    exact ⟨fun w => shaLess_any xs ys w hx hy bx yb, fun w => shaLess_any ys zs w hy hz yb bz, fun w => shaLess_any xs zs w hx hz bx bz⟩
  rw [← hX, ← hY, ← hV]
  have HX : Hid _ := hX
  have HY : Hid _ := hY
  have HV : Hid _ := hV
  have HE : Hid _ := hE
  have HT : Hid _ := ht
  have htl := ht.lt
  clear hZ i26 i40 hZ2 hX hY hV hE ht hq hd hx bx hy yb hz bz w3 w4
  have Hg5 : Hid (Arr (((W.alloc (Obj.cells X.toArray 26)).alloc (Obj.cells Y.toArray 26)).alloc (Obj.cells V.toArray 26)) W.heap.size 26 X) := ((Arr.new W 26 X rfl).alloc _).alloc _
  have Hg6 : Hid (Arr (((W.alloc (Obj.cells X.toArray 26)).alloc (Obj.cells Y.toArray 26)).alloc (Obj.cells V.toArray 26)) (W.heap.size + 1) 26 Y) := (Arr.new _ 26 Y (by simp)).alloc _
  have Hg7 : Hid (Arr (((W.alloc (Obj.cells X.toArray 26)).alloc (Obj.cells Y.toArray 26)).alloc (Obj.cells V.toArray 26)) (W.heap.size + 1 + 1) 26 V) := Arr.new _ 26 V (by simp)
  have HB1 : Hid (Below W.heap.size W (((W.alloc (Obj.cells X.toArray 26)).alloc (Obj.cells Y.toArray 26)).alloc (Obj.cells V.toArray 26))) := (((Below.refl _ _).alloc (Nat.le_refl _) _).alloc (by simp) _).alloc (by simp; omega) _
  go_enter Tryd.func7, Tryd.ntmps7
  go_wp2_with fail
  generalize (((W.alloc (Obj.cells X.toArray 26)).alloc (Obj.cells Y.toArray 26)).alloc (Obj.cells V.toArray 26)) = w1 at *
  obtain ⟨g7, hg7⟩ : ∃ g, g = W.heap.size + 1 + 1 := ⟨_, rfl⟩
  obtain ⟨g6, hg6⟩ : ∃ g, g = W.heap.size + 1 := ⟨_, rfl⟩
  obtain ⟨g5, hg5⟩ : ∃ g, g = W.heap.size := ⟨_, rfl⟩
  rw [← hg7] at Hg7 ⊢
  rw [← hg6] at Hg6 ⊢
  rw [show Arr w1 W.heap.size 26 X = Arr w1 g5 26 X by rw [hg5]] at Hg5
  rw [show Value.pointer (some { block := W.heap.size, off := 0 }) = Value.pointer (some { block := g5, off := 0 }) by rw [hg5]]
  clear hg7 hg6 hg5
  refine Calls.mono (known3_any w1 (HT.out.later HB1.out htl)) ?_
  rintro e w2 ⟨rfl, hB2⟩
  replace Hg5 : Hid (Arr w2 g5 26 X) := Arr.later Hg5.out hB2 (Arr.lt Hg5.out)
  replace Hg6 : Hid (Arr w2 g6 26 Y) := Arr.later Hg6.out hB2 (Arr.lt Hg6.out)
  replace Hg7 : Hid (Arr w2 g7 26 V) := Arr.later Hg7.out hB2 (Arr.lt Hg7.out)
  have HB2 : Hid (Below W.heap.size W w2) := HB1.out.trans (hB2.mono HB1.out.size)
  clear hB2 HB1
  have HA3 : Hid (Arr ((w2.alloc (Obj.cells Z.toArray 26)).setRow w2.heap.size X.toArray) w2.heap.size 26 X) := Arr.row (Arr.new w2 26 Z rfl)
  have hcq : ((w2.alloc (Obj.cells Z.toArray 26)).setRow w2.heap.size X.toArray).cell? ⟨w2.heap.size, q, none⟩ = some (.int .u8 ((xs[q]?.getD 0 : Nat) : Int)) := by
    have h := HA3.out
    rw [HX.out] at h ⊢
    exact Arr.cell8 h q (by rw [HX0.out.1]; exact hql)
  have hfq := Arr.frozen HA3.out q
  have HA4 : Hid (Arr (((w2.alloc (Obj.cells Z.toArray 26)).setRow w2.heap.size X.toArray).setCell ⟨w2.heap.size, q, none⟩ (.int .u8 (b : Int))) w2.heap.size 26 E) := by
    have h := Arr.set HA3.out q (.int .u8 (b : Int))
    rw [HE.out, HDD.out, ← u8v_set, ← HX.out]
    exact h
  have HB4 : Hid (Below w2.heap.size w2 (((w2.alloc (Obj.cells Z.toArray 26)).setRow w2.heap.size X.toArray).setCell ⟨w2.heap.size, q, none⟩ (.int .u8 (b : Int)))) := (below_setRow ((Below.refl _ _).alloc (Nat.le_refl _) _) (Nat.le_refl _) _).setCell (Nat.le_refl _) _
  have Hh5 : Hid (Arr (((w2.alloc (Obj.cells Z.toArray 26)).setRow w2.heap.size X.toArray).setCell ⟨w2.heap.size, q, none⟩ (.int .u8 (b : Int))) g5 26 X) := Arr.later Hg5.out HB4.out (Arr.lt Hg5.out)
  have Hh6 : Hid (Arr (((w2.alloc (Obj.cells Z.toArray 26)).setRow w2.heap.size X.toArray).setCell ⟨w2.heap.size, q, none⟩ (.int .u8 (b : Int))) g6 26 Y) := Arr.later Hg6.out HB4.out (Arr.lt Hg6.out)
  have Hh7 : Hid (Arr (((w2.alloc (Obj.cells Z.toArray 26)).setRow w2.heap.size X.toArray).setCell ⟨w2.heap.size, q, none⟩ (.int .u8 (b : Int))) g7 26 V) := Arr.later Hg7.out HB4.out (Arr.lt Hg7.out)
  have H64 : Hid (∀ L ∈ [X ++ Y, Y ++ X, X ++ X, X ++ E, E ++ X], L.length = 64) := by
    intro L hL
    have h1 := HLX.out
    have h2 := HLY.out
    have h3 := HLE.out
    simp only [List.mem_cons, List.not_mem_nil, or_false] at hL
    rcases hL with rfl | rfl | rfl | rfl | rfl <;> rw [List.length_append] <;> omega
  go_wp2_with (first
    | (refine wpList_store_arr rfl 26 (.tmp 11) (.tmp 16) rfl w2.heap.size 26 Z X rfl rfl (Arr.new w2 26 Z rfl) (by rw [HLX.out]; exact size26) (by rw [HLZ.out, HLX.out]) HOX.out ?_)
    | (refine wpList_load_mid rfl 26 (.tmp 5) rfl g5 0 rfl X (.array 32 5) (range_of_arr Hg5.out) Tryd.underlying26 rfl (by rw [HLX.out]; exact size26) ?_)
    | (refine wpList_load_mid rfl 26 (.tmp 5) rfl g5 0 rfl X (.array 32 5) (range_of_arr Hh5.out) Tryd.underlying26 rfl (by rw [HLX.out]; exact size26) ?_)
    | (refine wpList_load_mid rfl 26 (.tmp 6) rfl g6 0 rfl Y (.array 32 5) (range_of_arr Hh6.out) Tryd.underlying26 rfl (by rw [HLY.out]; exact size26) ?_)
    | (refine wpList_load_mid rfl 26 (.tmp 11) rfl w2.heap.size 0 rfl E (.array 32 5) (range_of_arr HA4.out) Tryd.underlying26 rfl (by rw [HLE.out]; exact size26) ?_)
    | (refine wpList_build_is rfl 40 #[(0, .tmp 21), (1, .tmp 22)] rfl [(0, .agg X.toArray), (1, .agg Y.toArray)] (by simp [Act.eval, Act.put]) (X ++ Y).toArray (built40 X Y HLX.out HLY.out) ?_; simp only [Act.put, List.setIfInBounds_toArray, List.set_cons_zero, List.set_cons_succ])
    | (refine wpList_build_is rfl 40 #[(0, .tmp 24), (1, .tmp 25)] rfl [(0, .agg Y.toArray), (1, .agg X.toArray)] (by simp [Act.eval, Act.put]) (Y ++ X).toArray (built40 Y X HLY.out HLX.out) ?_; simp only [Act.put, List.setIfInBounds_toArray, List.set_cons_zero, List.set_cons_succ])
    | (refine wpList_build_is rfl 40 #[(0, .tmp 27), (1, .tmp 28)] rfl [(0, .agg X.toArray), (1, .agg X.toArray)] (by simp [Act.eval, Act.put]) (X ++ X).toArray (built40 X X HLX.out HLX.out) ?_; simp only [Act.put, List.setIfInBounds_toArray, List.set_cons_zero, List.set_cons_succ])
    | (refine wpList_build_is rfl 40 #[(0, .tmp 30), (1, .tmp 31)] rfl [(0, .agg X.toArray), (1, .agg E.toArray)] (by simp [Act.eval, Act.put]) (X ++ E).toArray (built40 X E HLX.out HLE.out) ?_; simp only [Act.put, List.setIfInBounds_toArray, List.set_cons_zero, List.set_cons_succ])
    | (refine wpList_build_is rfl 40 #[(0, .tmp 33), (1, .tmp 34)] rfl [(0, .agg E.toArray), (1, .agg X.toArray)] (by simp [Act.eval, Act.put]) (E ++ X).toArray (built40 E X HLE.out HLX.out) ?_; simp only [Act.put, List.setIfInBounds_toArray, List.set_cons_zero, List.set_cons_succ])
    | (refine wpList_buildSlice41 rfl 5 #[(0, .tmp 23), (1, .tmp 26), (2, .tmp 29), (3, .tmp 32), (4, .tmp 35)] rfl [X ++ Y, Y ++ X, X ++ X, X ++ E, E ++ X] (by simp [Act.eval, Act.put, partsFrom]) rfl (by decide) (by decide) H64.out ?_; simp only [Act.put, List.setIfInBounds_toArray, List.set_cons_zero, List.set_cons_succ]))
  have hsz4 : (((w2.alloc (Obj.cells Z.toArray 26)).setRow w2.heap.size X.toArray).setCell ⟨w2.heap.size, q, none⟩ (.int .u8 (b : Int))).heap.size = w2.heap.size + 1 := by simp
  have HS7 : Hid (Arr ((((w2.alloc (Obj.cells Z.toArray 26)).setRow w2.heap.size X.toArray).setCell ⟨w2.heap.size, q, none⟩ (.int .u8 (b : Int))).alloc (Obj.cells [X ++ Y, Y ++ X, X ++ X, X ++ E, E ++ X].flatten.toArray 40)) (((w2.alloc (Obj.cells Z.toArray 26)).setRow w2.heap.size X.toArray).setCell ⟨w2.heap.size, q, none⟩ (.int .u8 (b : Int))).heap.size 40 [X ++ Y, Y ++ X, X ++ X, X ++ E, E ++ X].flatten) := Arr.new _ 40 _ rfl
  replace Hg5 : Hid (Arr ((((w2.alloc (Obj.cells Z.toArray 26)).setRow w2.heap.size X.toArray).setCell ⟨w2.heap.size, q, none⟩ (.int .u8 (b : Int))).alloc (Obj.cells [X ++ Y, Y ++ X, X ++ X, X ++ E, E ++ X].flatten.toArray 40)) g5 26 X) := Arr.alloc Hh5.out _
  replace Hg6 : Hid (Arr ((((w2.alloc (Obj.cells Z.toArray 26)).setRow w2.heap.size X.toArray).setCell ⟨w2.heap.size, q, none⟩ (.int .u8 (b : Int))).alloc (Obj.cells [X ++ Y, Y ++ X, X ++ X, X ++ E, E ++ X].flatten.toArray 40)) g6 26 Y) := Arr.alloc Hh6.out _
  replace Hg7 : Hid (Arr ((((w2.alloc (Obj.cells Z.toArray 26)).setRow w2.heap.size X.toArray).setCell ⟨w2.heap.size, q, none⟩ (.int .u8 (b : Int))).alloc (Obj.cells [X ++ Y, Y ++ X, X ++ X, X ++ E, E ++ X].flatten.toArray 40)) g7 26 V) := Arr.alloc Hh7.out _
  have HB7 : Hid (Below W.heap.size W ((((w2.alloc (Obj.cells Z.toArray 26)).setRow w2.heap.size X.toArray).setCell ⟨w2.heap.size, q, none⟩ (.int .u8 (b : Int))).alloc (Obj.cells [X ++ Y, Y ++ X, X ++ X, X ++ E, E ++ X].flatten.toArray 40))) := by
    have h := HB2.out.trans (HB4.out.mono HB2.out.size)
    exact h.alloc h.size _
  have HRG : Hid (∀ k, k < 5 → ((((w2.alloc (Obj.cells Z.toArray 26)).setRow w2.heap.size X.toArray).setCell ⟨w2.heap.size, q, none⟩ (.int .u8 (b : Int))).alloc (Obj.cells [X ++ Y, Y ++ X, X ++ X, X ++ E, E ++ X].flatten.toArray 40)).rangeAt (((w2.alloc (Obj.cells Z.toArray 26)).setRow w2.heap.size X.toArray).setCell ⟨w2.heap.size, q, none⟩ (.int .u8 (b : Int))).heap.size (64 * k) ([X ++ Y, Y ++ X, X ++ X, X ++ E, E ++ X][k]?.getD [])) := by
    intro k hk j v hv
    have hl : ([X ++ Y, Y ++ X, X ++ X, X ++ E, E ++ X][k]?.getD []).length = 64 := H64.out _ (by have : k < [X ++ Y, Y ++ X, X ++ X, X ++ E, E ++ X].length := hk; simp only [this, List.getElem?_eq_getElem, Option.getD_some]; exact List.getElem_mem this)
    have hj : j < 64 := by have := (List.getElem?_eq_some_iff.1 hv).1; omega
    rw [Arr.cell HS7.out, flat_get [X ++ Y, Y ++ X, X ++ X, X ++ E, E ++ X] k j H64.out hk hj]
    exact hv
  have hfl : [X ++ Y, Y ++ X, X ++ X, X ++ E, E ++ X].flatten = (X ++ (Y ++ (Y ++ (X ++ (X ++ (X ++ (X ++ (E ++ (E ++ X))))))))) := by simp
  rw [hfl] at HRG Hg5 Hg6 Hg7 HB7
  have HS4 : Hid ((((w2.alloc (Obj.cells Z.toArray 26)).setRow w2.heap.size X.toArray).setCell ⟨w2.heap.size, q, none⟩ (.int .u8 (b : Int))).heap.size < ((((w2.alloc (Obj.cells Z.toArray 26)).setRow w2.heap.size X.toArray).setCell ⟨w2.heap.size, q, none⟩ (.int .u8 (b : Int))).alloc (Obj.cells (X ++ (Y ++ (Y ++ (X ++ (X ++ (X ++ (X ++ (E ++ (E ++ X))))))))).toArray 40)).heap.size) := by show _ < _; simp
  obtain ⟨gs, hgs⟩ : ∃ g, g = (((w2.alloc (Obj.cells Z.toArray 26)).setRow w2.heap.size X.toArray).setCell ⟨w2.heap.size, q, none⟩ (.int .u8 (b : Int))).heap.size := ⟨_, rfl⟩
  rw [← hgs] at HRG HS4 ⊢
  generalize ((((w2.alloc (Obj.cells Z.toArray 26)).setRow w2.heap.size X.toArray).setCell ⟨w2.heap.size, q, none⟩ (.int .u8 (b : Int))).alloc (Obj.cells (X ++ (Y ++ (Y ++ (X ++ (X ++ (X ++ (X ++ (E ++ (E ++ X))))))))).toArray 40)) = w7 at *
  have HLs : Hid ([X ++ Y, Y ++ X, X ++ X, X ++ E, E ++ X] = (pairs xs ys d).map fun p => u8v p.1 ++ u8v p.2) := by show _ = _; rw [HX.out, HY.out, HE.out]; rfl
  rw [HLs.out] at HRG
  clear hcq hfq HA3 HA4 HB4 Hh5 Hh6 Hh7 hgs hfl hsz4 HS7 HLs H64
  generalize (X ++ Y).toArray = XY
  generalize (Y ++ X).toArray = YX
  generalize (X ++ X).toArray = XX
  generalize (X ++ E).toArray = XE
  generalize (E ++ X).toArray = EX
  have HPO : Hid _ := pairs_ok HX0.out HY0.out HD0.out
  obtain ⟨PS, hPS⟩ : ∃ P, P = pairs xs ys d := ⟨_, rfl⟩
  have HPl : Hid (PS.length = 5) := by show _ = _; rw [hPS]; rfl
  rw [← hPS] at HRG HPO
  clear hPS
  go_loopw [38] (fun i wr => ∃ k : Nat, k ≤ 5 ∧ i = .int .i64 k ∧ Below w7.heap.size w7 wr) (fun i _ => 5 - (intOf i).toNat)
  case atStart => exact ⟨0, by omega, rfl, Below.refl _ _⟩
  case round =>
    obtain ⟨k, hk, rfl, hBr⟩ := hrel
    by_cases hlt : k < 5
    · have hkl : k < PS.length := by rw [HPl.out]; exact hlt
      obtain ⟨p, hp⟩ : ∃ p, p = PS[k] := ⟨_, rfl⟩
      have hpo := HPO.out p (by rw [hp]; exact List.getElem_mem hkl)
      have hrg : wr.rangeAt gs (64 * k) (u8v p.1 ++ u8v p.2) := by
        have h := HRG.out k hlt
        rw [show ((PS.map fun p => u8v p.1 ++ u8v p.2)[k]?.getD []) = u8v p.1 ++ u8v p.2 by rw [hp]; simp [hkl]] at h
        intro j v hv
        have hc := h j v hv
        rw [hBr.cell (World.block_lt_of_cell? w7 _ hc)]; exact hc
      obtain ⟨⟨hp1, bp1⟩, ⟨hp2, bp2⟩⟩ := hpo
      have HL1 : Hid (∀ w, _) := fun w => shaLess_any p.1 p.2 w hp1 hp2 bp1 bp2
      have HI1 : Hid (∀ w, _) := fun w => idLess_any p.1 p.2 w hp1 hp2
      have HT1 : Hid (∀ w, _) := fun w => text_any p.1 w hp1 bp1
      have HT2 : Hid (∀ w, _) := fun w => text_any p.2 w hp2 bp2
      have hbl : Op.bytesLess (strN (ShaMath.hexL p.1)).toList (strN (ShaMath.hexL p.2)).toList = ShaMath.lexLt p.1 p.2 := by
        rw [strN_toList, strN_toList, lex_less _ _ (ShaMath.hexL_lt _ bp1) (ShaMath.hexL_lt _ bp2), ShaMath.lex_hex _ _ bp1 bp2]
      have HLP : Hid ((u8v p.1).length = 32) := by show _ = _; rw [u8v_len, hp1]
      have HLR : Hid ((u8v p.2).length = 32) := by show _ = _; rw [u8v_len, hp2]
      have HOP : Hid (∀ v ∈ u8v p.1 ++ u8v p.2, v.oneCell' = true) := by
        intro v hv
        rcases List.mem_append.1 hv with h | h
        · exact u8v_one _ v h
        · exact u8v_one _ v h
      generalize u8v p.1 = P at *
      generalize u8v p.2 = R at *
      generalize ShaMath.lexLt p.1 p.2 = lt at *
      generalize strN (ShaMath.hexL p.1) = S1 at *
      generalize strN (ShaMath.hexL p.2) = S2 at *
      have HPRl : Hid ((P ++ R).length = 64) := by show _ = _; rw [List.length_append, HLP.out, HLR.out]
      obtain ⟨K6, hK1, hK2⟩ : ∃ K6, 64 * k = K6 ∧ k * 64 = K6 := ⟨64 * k, rfl, by omega⟩
      rw [hK1] at hrg
      have HRG1 : Hid _ := hrg
      have HBL : Hid _ := hbl
      obtain ⟨PR, hPR⟩ : ∃ PR, PR = P ++ R := ⟨_, rfl⟩
      have HPR : Hid _ := hPR
      rw [← hPR] at HRG1 HPRl HOP
      have HA13 : Hid (Arr ((wr.alloc (Obj.cells Z2.toArray 40)).setRow wr.heap.size PR.toArray) wr.heap.size 40 PR) := Arr.row (Arr.new wr 40 Z2 rfl)
      have HB9 : Hid (Below w7.heap.size w7 ((wr.alloc (Obj.cells Z2.toArray 40)).setRow wr.heap.size PR.toArray)) := below_setRow (hBr.alloc hBr.size _) hBr.size _
      clear hp hp1 hp2 bp1 bp2 hrg hbl hkl hPR hBr
      go_wp2_with (first
        | (refine wpList_load_mid rfl 40 (.tmp 40) rfl gs K6 rfl PR (.array 2 26) HRG1.out Tryd.underlying40 rfl (by rw [HPRl.out]; exact (zero_of_info zero40).2) ?_)
        | (refine wpList_store_arr rfl 40 (.tmp 13) (.tmp 41) rfl wr.heap.size 40 Z2 PR rfl rfl (Arr.new wr 40 Z2 rfl) (by rw [HPRl.out]; exact (zero_of_info zero40).2) (by rw [HLZ2.out, HPRl.out]) HOP.out ?_))
      obtain ⟨g13, hg13⟩ : ∃ g, g = wr.heap.size := ⟨_, rfl⟩
      rw [← hg13] at HA13 HB9 ⊢
      clear hg13
      generalize ((wr.alloc (Obj.cells Z2.toArray 40)).setRow g13 PR.toArray) = w9 at *
      have HRP : Hid (∀ w', Below w9.heap.size w9 w' → w'.rangeAt g13 0 P) := by
        intro w' h j v hv
        have hA := Arr.later HA13.out h (Arr.lt HA13.out)
        rw [Nat.zero_add, hA.cell j, HPR.out, List.getElem?_append_left (List.getElem?_eq_some_iff.1 hv).1]; exact hv
      have HRR : Hid (∀ w', Below w9.heap.size w9 w' → w'.rangeAt g13 32 R) := by
        intro w' h j v hv
        have hA := Arr.later HA13.out h (Arr.lt HA13.out)
        rw [hA.cell (32 + j), HPR.out, List.getElem?_append_right (by rw [HLP.out]; omega), HLP.out, show 32 + j - 32 = j by omega]; exact hv
      have hbl := HBL.out
      refine wp_region_held_drew (S := fun w' => Below w9.heap.size w9 w') rfl ((Below.refl _ _).drew) (fun hS => ?_)
      refine wpAnyH_take (i := 0) (v := ?_) rfl (by kernel_rfl) (by kernel_rfl) (by kernel_rfl) (fun _ _ _ h => h) (Or.inl ⟨by rfl, ?_⟩) hS ?_
      rotate_left 1
      · intro w hSw; (try dsimp only at hSw); go_simp <;> with_reducible rfl
      try simp only [List.getElem_toArray, List.getElem_cons_zero, List.getElem_cons_succ, Act.put, List.setIfInBounds_toArray, List.set_cons_zero, List.set_cons_succ]
      refine wpAnyH_take (i := 1) (v := _) rfl (by kernel_rfl) (by kernel_rfl) (by kernel_rfl) (fun _ _ _ h => h) (yieldsIf_load_mid (by rfl) 26 (.tmp 42) rfl g13 0 rfl P (.array 32 5) (HRP.out) Tryd.underlying26 rfl (by rw [HLP.out]; exact size26)) hS ?_
      try simp only [List.getElem_toArray, List.getElem_cons_zero, List.getElem_cons_succ, Act.put, List.setIfInBounds_toArray, List.set_cons_zero, List.set_cons_succ]
      refine wpAnyH_take (i := 2) (v := ?_) rfl (by kernel_rfl) (by kernel_rfl) (by kernel_rfl) (fun _ _ _ h => h) (Or.inl ⟨by rfl, ?_⟩) hS ?_
      rotate_left 1
      · intro w hSw; (try dsimp only at hSw); go_simp <;> with_reducible rfl
      try simp only [List.getElem_toArray, List.getElem_cons_zero, List.getElem_cons_succ, Act.put, List.setIfInBounds_toArray, List.set_cons_zero, List.set_cons_succ]
      refine wpAnyH_take (i := 3) (v := _) rfl (by kernel_rfl) (by kernel_rfl) (by kernel_rfl) (fun _ _ _ h => h) (yieldsIf_load_mid (by rfl) 26 (.tmp 44) rfl g13 32 rfl R (.array 32 5) (HRR.out) Tryd.underlying26 rfl (by rw [HLR.out]; exact size26)) hS ?_
      try simp only [List.getElem_toArray, List.getElem_cons_zero, List.getElem_cons_succ, Act.put, List.setIfInBounds_toArray, List.set_cons_zero, List.set_cons_succ]
      refine wpAnyH_take (i := 5) (v := ?_) rfl (by kernel_rfl) (by kernel_rfl) (by kernel_rfl) (fun _ _ _ h => h) (Or.inl ⟨by rfl, ?_⟩) hS ?_
      rotate_left 1
      · intro w hSw; (try dsimp only at hSw); go_simp <;> with_reducible rfl
      try simp only [List.getElem_toArray, List.getElem_cons_zero, List.getElem_cons_succ, Act.put, List.setIfInBounds_toArray, List.set_cons_zero, List.set_cons_succ]
      refine wpAnyH_take (i := 6) (v := _) rfl (by kernel_rfl) (by kernel_rfl) (by kernel_rfl) (fun _ _ _ h => h) (yieldsIf_load_mid (by rfl) 26 (.tmp 47) rfl g13 0 rfl P (.array 32 5) (HRP.out) Tryd.underlying26 rfl (by rw [HLP.out]; exact size26)) hS ?_
      try simp only [List.getElem_toArray, List.getElem_cons_zero, List.getElem_cons_succ, Act.put, List.setIfInBounds_toArray, List.set_cons_zero, List.set_cons_succ]
      refine wpAnyH_take (i := 7) (v := ?_) rfl (by kernel_rfl) (by kernel_rfl) (by kernel_rfl) (fun _ _ _ h => h) (Or.inl ⟨by rfl, ?_⟩) hS ?_
      rotate_left 1
      · intro w hSw; (try dsimp only at hSw); go_simp <;> with_reducible rfl
      try simp only [List.getElem_toArray, List.getElem_cons_zero, List.getElem_cons_succ, Act.put, List.setIfInBounds_toArray, List.set_cons_zero, List.set_cons_succ]
      refine wpAnyH_take (i := 8) (v := _) rfl (by kernel_rfl) (by kernel_rfl) (by kernel_rfl) (fun _ _ _ h => h) (yieldsIf_load_mid (by rfl) 26 (.tmp 49) rfl g13 32 rfl R (.array 32 5) (HRR.out) Tryd.underlying26 rfl (by rw [HLR.out]; exact size26)) hS ?_
      try simp only [List.getElem_toArray, List.getElem_cons_zero, List.getElem_cons_succ, Act.put, List.setIfInBounds_toArray, List.set_cons_zero, List.set_cons_succ]
      refine wpAnyH_ready (rs := [4]) (by kernel_rfl) (by simp) ?_
      refine AllReadyH.cons rfl (fun K hK => ?_) AllReadyH.nil
      go_simp
      refine Calls.mono (HL1.out _) ?_
      rintro e wa ⟨rfl, hbwa⟩
      have hS2 : Below w9.heap.size w9 wa := Below.trans hS (hbwa.mono hS.size)
      clear hbwa
      refine hK.out _ _ hS2 (fun hS => ?_)
      clear hK K hS2
      try simp only [List.getElem_toArray, List.getElem_cons_zero, List.getElem_cons_succ, Act.put, List.setIfInBounds_toArray, List.set_cons_zero, List.set_cons_succ]
      refine wpAnyH_ready (rs := [9]) (by kernel_rfl) (by simp) ?_
      refine AllReadyH.cons rfl (fun K hK => ?_) AllReadyH.nil
      go_simp
      refine Calls.mono (HI1.out _) ?_
      rintro e wb ⟨rfl, hbwb⟩
      have hS2 : Below w9.heap.size w9 wb := Below.trans hS (hbwb.mono hS.size)
      clear hbwb
      refine hK.out _ _ hS2 (fun hS => ?_)
      clear hK K hS2
      try simp only [List.getElem_toArray, List.getElem_cons_zero, List.getElem_cons_succ, Act.put, List.setIfInBounds_toArray, List.set_cons_zero, List.set_cons_succ]
      refine wpAnyH_take (i := 10) (v := ?_) rfl (by kernel_rfl) (by kernel_rfl) (by kernel_rfl) (fun _ _ _ h => h) (Or.inl ⟨by rfl, ?_⟩) hS ?_
      rotate_left 1
      · intro w hSw; (try dsimp only at hSw); go_simp <;> with_reducible rfl
      try simp only [List.getElem_toArray, List.getElem_cons_zero, List.getElem_cons_succ, Act.put, List.setIfInBounds_toArray, List.set_cons_zero, List.set_cons_succ]
      refine wpAnyH_take (i := 11) (v := ?_) rfl (by kernel_rfl) (by kernel_rfl) (by kernel_rfl) (fun _ _ _ h => h) (Or.inl ⟨by rfl, ?_⟩) hS ?_
      rotate_left 1
      · intro w hSw; (try dsimp only at hSw); go_simp <;> with_reducible rfl
      try simp only [List.getElem_toArray, List.getElem_cons_zero, List.getElem_cons_succ, Act.put, List.setIfInBounds_toArray, List.set_cons_zero, List.set_cons_succ]
      refine wpAnyH_take (i := 12) (v := ?_) rfl (by kernel_rfl) (by kernel_rfl) (by kernel_rfl) (fun _ _ _ h => h) (Or.inl ⟨by rfl, ?_⟩) hS ?_
      rotate_left 1
      · intro w hSw; (try dsimp only at hSw); go_simp <;> with_reducible rfl
      try simp only [List.getElem_toArray, List.getElem_cons_zero, List.getElem_cons_succ, Act.put, List.setIfInBounds_toArray, List.set_cons_zero, List.set_cons_succ]
      refine wpAnyH_take (i := 13) (v := _) rfl (by kernel_rfl) (by kernel_rfl) (by kernel_rfl) (fun _ _ _ h => h) (yieldsIf_load_mid (by rfl) 26 (.tmp 54) rfl g13 0 rfl P (.array 32 5) (HRP.out) Tryd.underlying26 rfl (by rw [HLP.out]; exact size26)) hS ?_
      try simp only [List.getElem_toArray, List.getElem_cons_zero, List.getElem_cons_succ, Act.put, List.setIfInBounds_toArray, List.set_cons_zero, List.set_cons_succ]
      refine wpAnyH_take (i := 14) (v := ?_) rfl (by kernel_rfl) (by kernel_rfl) (by kernel_rfl) (fun _ _ _ h => h) (Or.inl ⟨by rfl, ?_⟩) hS ?_
      rotate_left 1
      · intro w hSw; (try dsimp only at hSw); go_simp <;> with_reducible rfl
      try simp only [List.getElem_toArray, List.getElem_cons_zero, List.getElem_cons_succ, Act.put, List.setIfInBounds_toArray, List.set_cons_zero, List.set_cons_succ]
      refine wpAnyH_take (i := 15) (v := _) rfl (by kernel_rfl) (by kernel_rfl) (by kernel_rfl) (fun _ _ _ h => h) (yieldsIf_load_mid (by rfl) 26 (.tmp 56) rfl g13 32 rfl R (.array 32 5) (HRR.out) Tryd.underlying26 rfl (by rw [HLR.out]; exact size26)) hS ?_
      try simp only [List.getElem_toArray, List.getElem_cons_zero, List.getElem_cons_succ, Act.put, List.setIfInBounds_toArray, List.set_cons_zero, List.set_cons_succ]
      refine wpAnyH_take (i := 17) (v := ?_) rfl (by kernel_rfl) (by kernel_rfl) (by kernel_rfl) (fun _ _ _ h => h) (Or.inl ⟨by rfl, ?_⟩) hS ?_
      rotate_left 1
      · intro w hSw; (try dsimp only at hSw); go_simp <;> with_reducible rfl
      try simp only [List.getElem_toArray, List.getElem_cons_zero, List.getElem_cons_succ, Act.put, List.setIfInBounds_toArray, List.set_cons_zero, List.set_cons_succ]
      refine wpAnyH_take (i := 18) (v := _) rfl (by kernel_rfl) (by kernel_rfl) (by kernel_rfl) (fun _ _ _ h => h) (yieldsIf_load_mid (by rfl) 26 (.tmp 59) rfl g13 0 rfl P (.array 32 5) (HRP.out) Tryd.underlying26 rfl (by rw [HLP.out]; exact size26)) hS ?_
      try simp only [List.getElem_toArray, List.getElem_cons_zero, List.getElem_cons_succ, Act.put, List.setIfInBounds_toArray, List.set_cons_zero, List.set_cons_succ]
      refine wpAnyH_take (i := 20) (v := ?_) rfl (by kernel_rfl) (by kernel_rfl) (by kernel_rfl) (fun _ _ _ h => h) (Or.inl ⟨by rfl, ?_⟩) hS ?_
      rotate_left 1
      · intro w hSw; (try dsimp only at hSw); go_simp <;> with_reducible rfl
      try simp only [List.getElem_toArray, List.getElem_cons_zero, List.getElem_cons_succ, Act.put, List.setIfInBounds_toArray, List.set_cons_zero, List.set_cons_succ]
      refine wpAnyH_take (i := 21) (v := _) rfl (by kernel_rfl) (by kernel_rfl) (by kernel_rfl) (fun _ _ _ h => h) (yieldsIf_load_mid (by rfl) 26 (.tmp 62) rfl g13 32 rfl R (.array 32 5) (HRR.out) Tryd.underlying26 rfl (by rw [HLR.out]; exact size26)) hS ?_
      try simp only [List.getElem_toArray, List.getElem_cons_zero, List.getElem_cons_succ, Act.put, List.setIfInBounds_toArray, List.set_cons_zero, List.set_cons_succ]
      refine wpAnyH_ready (rs := [16]) (by kernel_rfl) (by simp) ?_
      refine AllReadyH.cons rfl (fun K hK => ?_) AllReadyH.nil
      go_simp
      refine Calls.mono (HL1.out _) ?_
      rintro e wc ⟨rfl, hbwc⟩
      have hS2 : Below w9.heap.size w9 wc := Below.trans hS (hbwc.mono hS.size)
      clear hbwc
      refine hK.out _ _ hS2 (fun hS => ?_)
      clear hK K hS2
      try simp only [List.getElem_toArray, List.getElem_cons_zero, List.getElem_cons_succ, Act.put, List.setIfInBounds_toArray, List.set_cons_zero, List.set_cons_succ]
      refine wpAnyH_ready (rs := [19]) (by kernel_rfl) (by simp) ?_
      refine AllReadyH.cons rfl (fun K hK => ?_) AllReadyH.nil
      go_simp
      refine Calls.mono (HT1.out _) ?_
      rintro e wd ⟨rfl, hbwd⟩
      have hS2 : Below w9.heap.size w9 wd := Below.trans hS (hbwd.mono hS.size)
      clear hbwd
      refine hK.out _ _ hS2 (fun hS => ?_)
      clear hK K hS2
      try simp only [List.getElem_toArray, List.getElem_cons_zero, List.getElem_cons_succ, Act.put, List.setIfInBounds_toArray, List.set_cons_zero, List.set_cons_succ]
      refine wpAnyH_ready (rs := [22]) (by kernel_rfl) (by simp) ?_
      refine AllReadyH.cons rfl (fun K hK => ?_) AllReadyH.nil
      go_simp
      refine Calls.mono (HT2.out _) ?_
      rintro e we ⟨rfl, hbwe⟩
      have hS2 : Below w9.heap.size w9 we := Below.trans hS (hbwe.mono hS.size)
      clear hbwe
      refine hK.out _ _ hS2 (fun hS => ?_)
      clear hK K hS2
      try simp only [List.getElem_toArray, List.getElem_cons_zero, List.getElem_cons_succ, Act.put, List.setIfInBounds_toArray, List.set_cons_zero, List.set_cons_succ]
      refine wpAnyH_take (i := 23) (v := ?_) rfl (by kernel_rfl) (by kernel_rfl) (by kernel_rfl) (fun _ _ _ h => h) (Or.inl ⟨by rfl, ?_⟩) hS ?_
      rotate_left 1
      · intro w hSw; (try dsimp only at hSw); go_simp <;> with_reducible rfl
      try simp only [List.getElem_toArray, List.getElem_cons_zero, List.getElem_cons_succ, Act.put, List.setIfInBounds_toArray, List.set_cons_zero, List.set_cons_succ]
      refine wpAnyH_take (i := 24) (v := ?_) rfl (by kernel_rfl) (by kernel_rfl) (by kernel_rfl) (fun _ _ _ h => h) (Or.inl ⟨by rfl, ?_⟩) hS ?_
      rotate_left 1
      · intro w hSw; (try dsimp only at hSw); go_simp <;> with_reducible rfl
      try simp only [List.getElem_toArray, List.getElem_cons_zero, List.getElem_cons_succ, Act.put, List.setIfInBounds_toArray, List.set_cons_zero, List.set_cons_succ]
      refine wpAnyH_take (i := 25) (v := ?_) rfl (by kernel_rfl) (by kernel_rfl) (by kernel_rfl) (fun _ _ _ h => h) (Or.inl ⟨by rfl, ?_⟩) hS ?_
      rotate_left 1
      · intro w hSw; (try dsimp only at hSw); go_simp <;> with_reducible rfl
      try simp only [List.getElem_toArray, List.getElem_cons_zero, List.getElem_cons_succ, Act.put, List.setIfInBounds_toArray, List.set_cons_zero, List.set_cons_succ]
      refine wpAnyH_done (by kernel_rfl) ?_ _
      have HBe : Hid (Below w7.heap.size w7 we) := HB9.out.trans (hS.mono HB9.out.size)
      clear hS
      go_wp2
      go_roundw
      case rel => exact ⟨k + 1, by omega, by go_num, HBe.out⟩
      case measure => simp [intOf]; omega
    · obtain rfl : k = 5 := by omega
      have Hr5 : Hid (Arr wr g5 26 X) := Arr.later Hg5.out hBr (Arr.lt Hg5.out)
      have Hr6 : Hid (Arr wr g6 26 Y) := Arr.later Hg6.out hBr (Arr.lt Hg6.out)
      have Hr7 : Hid (Arr wr g7 26 V) := Arr.later Hg7.out hBr (Arr.lt Hg7.out)
      have HBr : Hid (Below W.heap.size W wr) := HB7.out.trans (hBr.mono HB7.out.size)
      have htr := ShaMath.lex_trans xs ys zs
      obtain ⟨HC1, HC2, HC3⟩ := HLS.out
      have K1 : Hid _ := HC1
      have K2 : Hid _ := HC2
      have K3 : Hid _ := HC3
      clear hBr Hg5 Hg6 Hg7 HC1 HC2 HC3 HLS
      generalize ShaMath.lexLt xs ys = l1 at *
      generalize ShaMath.lexLt ys zs = l2 at *
      generalize ShaMath.lexLt xs zs = l3 at *
      rw [show ((5 : Nat) : Int) = 5 from rfl]
      go_wp2_with (first
        | (refine wpList_load_mid rfl 26 (.tmp 5) rfl g5 0 rfl X (.array 32 5) (range_of_arr Hr5.out) Tryd.underlying26 rfl (by rw [HLX.out]; exact size26) ?_)
        | (refine wpList_load_mid rfl 26 (.tmp 6) rfl g6 0 rfl Y (.array 32 5) (range_of_arr Hr6.out) Tryd.underlying26 rfl (by rw [HLY.out]; exact size26) ?_))
      refine Calls.mono (K1.out _) ?_
      rintro e wa ⟨rfl, hba⟩
      have HBa : Hid (Below W.heap.size W wa) := HBr.out.trans (hba.mono HBr.out.size)
      have Ha5 : Hid (Arr wa g5 26 X) := Arr.later Hr5.out hba (Arr.lt Hr5.out)
      have Ha6 : Hid (Arr wa g6 26 Y) := Arr.later Hr6.out hba (Arr.lt Hr6.out)
      have Ha7 : Hid (Arr wa g7 26 V) := Arr.later Hr7.out hba (Arr.lt Hr7.out)
      clear hba Hr5 Hr6 Hr7
      cases l1 with
      | false =>
        clear htr
        go_wp2
        go_ret
        exact ⟨rfl, HBa.out⟩
      | true =>
        cases l2 with
        | false =>
          clear htr
          go_wp2_with (first
            | (refine wpList_want (by rfl) (fun K hK => wp_load_mid 26 (.tmp 6) rfl g6 0 rfl Y (.array 32 5) (range_of_arr Ha6.out) Tryd.underlying26 rfl (by rw [HLY.out]; exact size26) (hK _ _ ?_)))
            | (refine wpList_want (by rfl) (fun K hK => wp_load_mid 26 (.tmp 7) rfl g7 0 rfl V (.array 32 5) (range_of_arr Ha7.out) Tryd.underlying26 rfl (by rw [HLV.out]; exact size26) (hK _ _ ?_))))
          refine Calls.mono (K2.out _) ?_
          rintro e wb ⟨rfl, hbb⟩
          have HBb : Hid (Below W.heap.size W wb) := HBa.out.trans (hbb.mono HBa.out.size)
          clear hbb
          go_wp2
          go_ret
          exact ⟨rfl, HBb.out⟩
        | true =>
          have hl3 : l3 = true := htr rfl rfl
          subst hl3
          clear htr
          go_wp2_with (first
            | (refine wpList_want (by rfl) (fun K hK => wp_load_mid 26 (.tmp 6) rfl g6 0 rfl Y (.array 32 5) (range_of_arr Ha6.out) Tryd.underlying26 rfl (by rw [HLY.out]; exact size26) (hK _ _ ?_)))
            | (refine wpList_want (by rfl) (fun K hK => wp_load_mid 26 (.tmp 7) rfl g7 0 rfl V (.array 32 5) (range_of_arr Ha7.out) Tryd.underlying26 rfl (by rw [HLV.out]; exact size26) (hK _ _ ?_))))
          refine Calls.mono (K2.out _) ?_
          rintro e wb ⟨rfl, hbb⟩
          have HBb : Hid (Below W.heap.size W wb) := HBa.out.trans (hbb.mono HBa.out.size)
          have Hb5 : Hid (Arr wb g5 26 X) := Arr.later Ha5.out hbb (Arr.lt Ha5.out)
          have Hb7 : Hid (Arr wb g7 26 V) := Arr.later Ha7.out hbb (Arr.lt Ha7.out)
          clear hbb
          go_wp2_with (first
            | (refine wpList_want (by rfl) (fun K hK => wp_load_mid 26 (.tmp 5) rfl g5 0 rfl X (.array 32 5) (range_of_arr Hb5.out) Tryd.underlying26 rfl (by rw [HLX.out]; exact size26) (hK _ _ ?_)))
            | (refine wpList_want (by rfl) (fun K hK => wp_load_mid 26 (.tmp 7) rfl g7 0 rfl V (.array 32 5) (range_of_arr Hb7.out) Tryd.underlying26 rfl (by rw [HLV.out]; exact size26) (hK _ _ ?_))))
          refine Calls.mono (K3.out _) ?_
          rintro e wc ⟨rfl, hbc⟩
          have HBc : Hid (Below W.heap.size W wc) := HBb.out.trans (hbc.mono HBb.out.size)
          clear hbc
          go_wp2
          go_ret
          exact ⟨rfl, HBc.out⟩


end Go.Proofs.YtfgpoclflikhmaaDoor

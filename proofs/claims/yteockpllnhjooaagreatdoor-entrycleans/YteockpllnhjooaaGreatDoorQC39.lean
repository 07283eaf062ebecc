/-
  FnSeatE.
-/
import Derived.Test.YteockpllnhjooaaGreatDoorQC35
import Derived.Test.YteockpllnhjooaaGreatDoorQC13
import Derived.Test.YteockpllnhjooaaGreatDoorQC38
namespace Go.Proofs.YteockpllnhjooaaGreatDoor
open Go.RowKit NumMath
open EntMath (E)
set_option maxRecDepth 100000
set_option linter.unusedVariables false
set_option linter.unusedSimpArgs false

def titles6 : List (List Nat) := [[79, 110, 101], [116, 119, 111, 32, 87, 111, 114, 100, 115], [195, 133, 110, 103, 115, 116, 114, 195, 182, 109, 32, 116, 104, 114, 101, 101], []]
def links6 : List (List Nat) := [[], [104, 116, 116, 112, 58, 47, 47, 97, 46, 98, 47, 112]]
def bodies6 : List (List Nat) := [[], [87, 111, 114, 100, 115, 32, 111, 102, 32, 97, 32, 98, 111, 100, 121], [109, 111, 114, 101, 44, 32, 77, 79, 82, 69]]
def seatE (k j a : Nat) : E := ⟨seatA5 k, [103, 97 + j % 16], titles6[k / 6 % 4]?.getD [], links6[j / 16 % 2]?.getD [], bodies6[j / 32 % 3]?.getD [], ((a % 50 : Nat) : Int)⟩
theorem addrs_ok : ∀ a ∈ addrs, AddrMath.parse a = (a, 0) := by decide +kernel
theorem titles_ok : ∀ a ∈ titles6, TxtMath.cutB a 120 = a ∧ (∀ c ∈ a, c < 256) ∧ a.length ≤ 100 := by decide +kernel
theorem links_ok : ∀ a ∈ links6, EntMath.linkP a = (a, 0) ∧ (∀ c ∈ a, c < 256) ∧ a.length ≤ 100 := by decide +kernel
theorem bodies_ok : ∀ a ∈ bodies6, TxtMath.cutB a 400 = a ∧ (∀ c ∈ a, c < 256) ∧ a.length ≤ 100 := by decide +kernel
theorem guids_ok : ∀ c : Fin 16, TxtMath.cleanB [103, 97 + c.val] = [103, 97 + c.val] ∧ (TxtMath.runes [103, 97 + c.val]).length ≤ 200 := by decide +kernel
theorem tab6_mem (T : List (List Nat)) (q : Nat) (h : q < T.length) : T[q]?.getD [] ∈ T := by simp [h]
/-- The entry of some numbers is in its form. -/
theorem seatE_clean (k j a : Nat) : EntMath.clean (seatE k j a) = (seatE k j a, 0) := by
  have h1 := addrs_ok _ (seatA5_mem k)
  have h2 := guids_ok ⟨j % 16, by omega⟩
  have h3 := titles_ok _ (tab6_mem titles6 (k / 6 % 4) (by show _ < 4; omega))
  have h4 := links_ok _ (tab6_mem links6 (j / 16 % 2) (by show _ < 2; omega))
  have h5 := bodies_ok _ (tab6_mem bodies6 (j / 32 % 3) (by show _ < 3; omega))
  unfold EntMath.clean seatE
  simp only [] at h2 ⊢
  rw [h1, h2.1, h3.1, h4.1, h5.1]
  have hg : ∀ l t, EntMath.guidOf [103, 97 + j % 16] l t = [103, 97 + j % 16] := fun l t => by unfold EntMath.guidOf; rw [if_neg (by simp)]
  rw [EntMath.cleanG_is (by rw [hg]; simp) (by rw [hg]; exact h2.2) (by omega) (by omega), hg]
theorem seatE_right (k j a : Nat) : EntMath.right (seatE k j a) = true := EntMath.clean_right (seatE_clean k j a)

/-- A literal that lies in memory. -/
def MemS (w : World) (x : Value) (n : Nat) (l : List Value) (t : Nat) : Prop := ∃ q, x = .slice (some ⟨q, 0, none⟩) n n ∧ Arr w q t l
theorem MemS.later {w w' : World} {x : Value} {n t : Nat} {l : List Value} (h : MemS w x n l t) (hb : Below w.heap.size w w') : MemS w' x n l t := by
  obtain ⟨q, hx, ha⟩ := h
  exact ⟨q, hx, ha.later hb ha.lt⟩
def MemP (w : World) (x : Value) (i : Nat) (l : List Value) : Prop := ∃ q, x = .pointer (some ⟨q, i, none⟩) ∧ Arr w q 9 l
theorem MemP.later {w w' : World} {x : Value} {i : Nat} {l : List Value} (h : MemP w x i l) (hb : Below w.heap.size w w') : MemP w' x i l := by
  obtain ⟨q, hx, ha⟩ := h
  exact ⟨q, hx, ha.later hb ha.lt⟩
def MemE (w : World) (x : Value) (GR : Nat) (e : E) : Prop := ∃ q, x = .pointer (some ⟨q, 0, none⟩) ∧ GR < q ∧ EntAt w q e
theorem MemE.later {w w' : World} {x : Value} {GR : Nat} {e : E} (h : MemE w x GR e) (hb : Below w.heap.size w w') : MemE w' x GR e := by
  obtain ⟨q, hx, hq, ha⟩ := h
  exact ⟨q, hx, hq, ha.later hb ha.lt⟩
theorem wp_store_ent {op : Oper} {a : Act} {w : World} {K : Act → World → Prop} {Q : Exit → Act → World → Prop} (x y : Operand) (ho : op.op = .store 23 x y)
    (g : Nat) (e e' : E) (hx : a.eval x = .pointer (some ⟨g, 0, none⟩)) (hy : a.eval y = entV e') (h : EntAt w g e) (hn : K (a.put op.dst undef) (w.setRow g (entL e').toArray)) : Oper.wp Tryz.prog op a w K Q := by
  unfold Oper.wp execOp
  simp only [ho, hx, hy, entV_eq, Instr.storeAt, Instr.sureAddr, Sem.run_bind, Sem.run_pure, Result.andThen_ok, Arr.store h.arr sizeE (show (entL e).length = (entL e').length from rfl) (entL_one e')]
  exact hn
theorem ret_ent1 {fn : Func} {R : Ending → World → Prop} {a : Act} {w : World} {p : Tmp} (g : Nat) (e : E) (h : fn.results = #[.cell p 23]) (hp : a.tmps.getD p undef = .pointer (some ⟨g, 0, none⟩)) (hA : EntAt w g e)
    (hdf : a.defers = []) (hR : R (.returned (entV e)) w) : bodyPost Tryz.prog fn R .ret a w :=
  ret_arr g 23 (entL e) _ h hp hA.arr Tryz.underlying23 rfl sizeE hdf hR

set_option maxHeartbeats 64000000 in
theorem seatEntry_any (k j a : Nat) (w : World) (hk : k < 256) (hj : j < 256) (ha : a < 65536) :
    Calls Tryz.prog 9 #[.int .u8 (k : Int), .int .u8 (j : Int), .int .u16 (a : Int)] w fun r w' => r = .returned (entV (seatE k j a)) ∧ Below w.heap.size w w' := by
  have HAd : Hid (∀ w, _) := fun w => seatAddr_any k w hk
  have hfit := EFit.of (EntMath.right_fit (seatE_right k j a))
  have hcl := seatE_clean k j a
  have hse : seatE k j a = ⟨seatA5 k, [103, 97 + j % 16], titles6[k / 6 % 4]?.getD [], links6[j / 16 % 2]?.getD [], bodies6[j / 32 % 3]?.getD [], ((a % 50 : Nat) : Int)⟩ := rfl
  obtain ⟨m1, hm1⟩ : ∃ m, m = j % 16 := ⟨_, rfl⟩
  obtain ⟨ti, hti⟩ : ∃ m, m = k / 6 % 4 := ⟨_, rfl⟩
  obtain ⟨li, hli⟩ : ∃ m, m = j / 16 % 2 := ⟨_, rfl⟩
  obtain ⟨bi, hbi⟩ : ∃ m, m = j / 32 % 3 := ⟨_, rfl⟩
  obtain ⟨am, ham⟩ : ∃ m, m = a % 50 := ⟨_, rfl⟩
  obtain ⟨c, hc⟩ : ∃ m, m = 97 + m1 := ⟨_, rfl⟩
  have r1 : (j : Int).tmod 16 = (m1 : Int) := by rw [Int.tmod_eq_emod_of_nonneg (by omega)]; omega
  have r2 : IntKind.u8.wrap (97 + (m1 : Int)) = (c : Int) := by simp [IntKind.wrap, IntKind.bits, IntKind.signed]; omega
  have r3 : IntKind.u8.wrap ((k : Int) / 6) = (k : Int) / 6 := by simp [IntKind.wrap, IntKind.bits, IntKind.signed]; omega
  have r4 : ((k : Int) / 6).tmod 4 = (ti : Int) := by rw [Int.tmod_eq_emod_of_nonneg (by omega)]; omega
  have r5 : IntKind.u8.wrap ((j : Int) / 16) = (j : Int) / 16 := by simp [IntKind.wrap, IntKind.bits, IntKind.signed]; omega
  have r6 : ((j : Int) / 16).tmod 2 = (li : Int) := by rw [Int.tmod_eq_emod_of_nonneg (by omega)]; omega
  have r7 : IntKind.u8.wrap ((j : Int) / 32) = (j : Int) / 32 := by simp [IntKind.wrap, IntKind.bits, IntKind.signed]; omega
  have r8 : ((j : Int) / 32).tmod 3 = (bi : Int) := by rw [Int.tmod_eq_emod_of_nonneg (by omega)]; omega
  have r9 : (a : Int).tmod 50 = (am : Int) := by rw [Int.tmod_eq_emod_of_nonneg (by omega)]; omega
  have r10 : IntKind.i64.wrap (am : Int) = (am : Int) := by rw [IntKind.wrap_i64]; omega
  have hti4 : ti < 4 := by omega
  have hli2 : li < 2 := by omega
  have hbi3 : bi < 3 := by omega
  have hti4i : (ti : Int) < 4 := by omega
  have hli2i : (li : Int) < 2 := by omega
  have hbi3i : (bi : Int) < 3 := by omega
  have hc256 : c < 256 := by omega
  rw [← hm1, ← hti, ← hli, ← hbi, ← ham, ← hc] at hse
  rw [hse] at hfit hcl ⊢
  have HT6 : Hid ((sv titles6)[ti]? = some (.string (strN (titles6[ti]?.getD [])))) := by show _ = _; have : ti < titles6.length := hti4; simp [sv, this]
  have HL6 : Hid ((sv links6)[li]? = some (.string (strN (links6[li]?.getD [])))) := by show _ = _; have : li < links6.length := hli2; simp [sv, this]
  have HB6 : Hid ((sv bodies6)[bi]? = some (.string (strN (bodies6[bi]?.getD [])))) := by show _ = _; have : bi < bodies6.length := hbi3; simp [sv, this]
  obtain ⟨gd, hgd⟩ : ∃ gd, gd = [103, c] := ⟨_, rfl⟩
  rw [← hgd] at hfit hcl ⊢
  generalize titles6[ti]?.getD [] = tt at *
  generalize links6[li]?.getD [] = ll at *
  generalize bodies6[bi]?.getD [] = bb at *
  generalize seatA5 k = F at *
  have HCl : Hid (∀ w, Calls Tryz.prog 11 #[.agg #[.string (strN F), .string (strN gd), .string (strN tt), .string (strN ll), .string (strN bb), .int .i64 (am : Int)]] w fun r w' => r = .returned (.tuple #[.agg #[.string (strN F), .string (strN gd), .string (strN tt), .string (strN ll), .string (strN bb), .int .i64 (am : Int)], .int .i64 0]) ∧ Below w.heap.size w w') := by
    intro w
    have := refEntClean_any ⟨F, gd, tt, ll, bb, (am : Int)⟩ w hfit
    rw [hcl] at this
    exact this
  have HGs : Hid (∀ (w : World) (q : Nat), Arr w q 5 (iz [103, (c : Int)]) → (convert 48 9 (.slice (some ⟨q, 0, none⟩) 2 2)).run Tryz.prog w = .ok (.string (strN gd)) w) := by
    intro w q h
    have := row_string (cap := 2) (Arr.bytes h)
    rw [hgd]
    exact this
  have HZ : Hid (EntAt (w.alloc (.cells #[.string ⟨#[]⟩, .string ⟨#[]⟩, .string ⟨#[]⟩, .string ⟨#[]⟩, .string ⟨#[]⟩, .int .i64 0] 23)) w.heap.size EntMath.zero) := EntAt.new w EntMath.zero
  have HB0 : Hid (Below w.heap.size w (w.alloc (.cells #[.string ⟨#[]⟩, .string ⟨#[]⟩, .string ⟨#[]⟩, .string ⟨#[]⟩, .string ⟨#[]⟩, .int .i64 0] 23))) := (Below.refl _ _).alloc (Nat.le_refl _) _
  clear hfit hcl hse hm1 hti hli hbi ham hc hgd
  go_enter Tryz.func9, Tryz.ntmps9
  go_wp2
  have HGe : Hid (w.heap.size ≤ w.heap.size) := Nat.le_refl _
  generalize World.alloc w _ = W0 at *
  obtain ⟨GR, hGR⟩ : ∃ GR, GR = w.heap.size := ⟨_, rfl⟩
  have HGR : Hid _ := hGR
  rw [← hGR] at HZ ⊢
  have h0 : ∀ (a : Act) (l : Array Bool) (w' : World), 42 ≤ a.tmps.size → l.getD 1 false = false → l.getD 5 false = false → l.getD 6 false = false → l.getD 7 false = false → l.getD 11 false = false → l.getD 12 false = false → l.getD 13 false = false → l.getD 17 false = false → l.getD 18 false = false → l.getD 19 false = false → l.getD 23 false = false → l.getD 24 false = false → l.getD 28 false = false → l.getD 29 false = false → l.getD 30 false = false → l.getD 31 false = false → l.getD 32 false = false → l.getD 33 false = false → l.getD 34 false = false → l.getD 35 false = false → Below w.heap.size w w' → EntAt w' GR EntMath.zero → (fun a' l a w' => ∃ x11 x15 x16 x17 x21 x22 x23 x27 x28 x29 x33 x34 x38 x39 x9 x40 x41 x7 x8, a = (((((((((((((((((((a'.put (some 11) x11).put (some 15) x15).put (some 16) x16).put (some 17) x17).put (some 21) x21).put (some 22) x22).put (some 23) x23).put (some 27) x27).put (some 28) x28).put (some 29) x29).put (some 33) x33).put (some 34) x34).put (some 38) x38).put (some 39) x39).put (some 9) x9).put (some 40) x40).put (some 41) x41).put (some 7) x7).put (some 8) x8) ∧ (Below w.heap.size w w' ∧ EntAt w' GR EntMath.zero) ∧ ((l.getD 34 false = true → l.getD 33 false = true) ∧ (l.getD 34 false = true → l.getD 6 false = true ∧ l.getD 11 false = true ∧ l.getD 12 false = true ∧ l.getD 17 false = true ∧ l.getD 18 false = true ∧ l.getD 23 false = true ∧ l.getD 24 false = true)) ∧ (l.getD 1 false = true → x11 = .string (strN F)) ∧ (l.getD 5 false = true → l.getD 34 false = false → MemS w' x15 2 (iz [103, (c : Int)]) 5) ∧ (l.getD 6 false = true → x16 = .string (strN gd)) ∧ (l.getD 7 false = true → l.getD 34 false = false → MemS w' x17 4 (sv titles6) 9) ∧ (l.getD 11 false = true → l.getD 34 false = false → MemP w' x21 ti (sv titles6)) ∧ (l.getD 12 false = true → x22 = .string (strN tt)) ∧ (l.getD 13 false = true → l.getD 34 false = false → MemS w' x23 2 (sv links6) 9) ∧ (l.getD 17 false = true → l.getD 34 false = false → MemP w' x27 li (sv links6)) ∧ (l.getD 18 false = true → x28 = .string (strN ll)) ∧ (l.getD 19 false = true → l.getD 34 false = false → MemS w' x29 3 (sv bodies6) 9) ∧ (l.getD 23 false = true → l.getD 34 false = false → MemP w' x33 bi (sv bodies6)) ∧ (l.getD 24 false = true → x34 = .string (strN bb)) ∧ (l.getD 28 false = true → x38 = .agg #[.string (strN F), .string (strN gd), .string (strN tt), .string (strN ll), .string (strN bb), .int .i64 (am : Int)]) ∧ (l.getD 29 false = true → x39 = .tuple #[.agg #[.string (strN F), .string (strN gd), .string (strN tt), .string (strN ll), .string (strN bb), .int .i64 (am : Int)], .int .i64 0]) ∧ (l.getD 30 false = true → x9 = .tuple #[.agg #[.string (strN F), .string (strN gd), .string (strN tt), .string (strN ll), .string (strN bb), .int .i64 (am : Int)], .int .i64 0]) ∧ (l.getD 31 false = true → x40 = .agg #[.string (strN F), .string (strN gd), .string (strN tt), .string (strN ll), .string (strN bb), .int .i64 (am : Int)]) ∧ (l.getD 32 false = true → x41 = .int .i64 0) ∧ (l.getD 33 false = true → MemE w' x7 GR (if l.getD 34 false = true then (⟨F, gd, tt, ll, bb, (am : Int)⟩ : E) else EntMath.zero)) ∧ (l.getD 35 false = true → x8 = .int .i64 0)) a l a w' := by
    intro a l w' hsz n1 n5 n6 n7 n11 n12 n13 n17 n18 n19 n23 n24 n28 n29 n30 n31 n32 n33 n34 n35 hB hR
    exact ⟨a.tmps.getD 11 undef, a.tmps.getD 15 undef, a.tmps.getD 16 undef, a.tmps.getD 17 undef, a.tmps.getD 21 undef, a.tmps.getD 22 undef, a.tmps.getD 23 undef, a.tmps.getD 27 undef, a.tmps.getD 28 undef, a.tmps.getD 29 undef, a.tmps.getD 33 undef, a.tmps.getD 34 undef, a.tmps.getD 38 undef, a.tmps.getD 39 undef, a.tmps.getD 9 undef, a.tmps.getD 40 undef, a.tmps.getD 41 undef, a.tmps.getD 7 undef, a.tmps.getD 8 undef, by rw [put_self a 11 (by omega), put_self a 15 (by omega), put_self a 16 (by omega), put_self a 17 (by omega), put_self a 21 (by omega), put_self a 22 (by omega), put_self a 23 (by omega), put_self a 27 (by omega), put_self a 28 (by omega), put_self a 29 (by omega), put_self a 33 (by omega), put_self a 34 (by omega), put_self a 38 (by omega), put_self a 39 (by omega), put_self a 9 (by omega), put_self a 40 (by omega), put_self a 41 (by omega), put_self a 7 (by omega), put_self a 8 (by omega)], ⟨hB, hR⟩, ⟨fun h => not_up n34 h, fun h => not_up n34 h⟩, fun h => not_up n1 h, fun h => not_up n5 h, fun h => not_up n6 h, fun h => not_up n7 h, fun h => not_up n11 h, fun h => not_up n12 h, fun h => not_up n13 h, fun h => not_up n17 h, fun h => not_up n18 h, fun h => not_up n19 h, fun h => not_up n23 h, fun h => not_up n24 h, fun h => not_up n28 h, fun h => not_up n29 h, fun h => not_up n30 h, fun h => not_up n31 h, fun h => not_up n32 h, fun h => not_up n33 h, fun h => not_up n35 h⟩
  clear hGR
  refine wp_region_held_drew (S := fun _ => True) (by kernel_rfl) trivial (fun hS => ?_)
  refine wpAnyH_take (i := 0) (v := ?_) rfl (by kernel_rfl) (by kernel_rfl) (by kernel_rfl) (fun _ _ _ h => h) (Or.inl ⟨by rfl, ?_⟩) hS ?_
  rotate_left 1
  · intro w hSw; (try dsimp only at hSw); go_simp <;> with_reducible rfl
  simp only [List.getElem_toArray, List.getElem_cons_zero, List.getElem_cons_succ, Act.put, List.setIfInBounds_toArray, List.set_cons_zero, List.set_cons_succ]
  refine wpAnyH_take (i := 2) (v := ?_) rfl (by kernel_rfl) (by kernel_rfl) (by kernel_rfl) (fun _ _ _ h => h) (Or.inl ⟨by rfl, ?_⟩) hS ?_
  rotate_left 1
  · intro w hSw; (try dsimp only at hSw); go_simp <;> with_reducible rfl
  simp only [List.getElem_toArray, List.getElem_cons_zero, List.getElem_cons_succ, Act.put, List.setIfInBounds_toArray, List.set_cons_zero, List.set_cons_succ]
  refine wpAnyH_take (i := 3) (v := ?_) rfl (by kernel_rfl) (by kernel_rfl) (by kernel_rfl) (fun _ _ _ h => h) (Or.inl ⟨by rfl, ?_⟩) hS ?_
  rotate_left 1
  · intro w hSw; (try dsimp only at hSw); go_simp <;> with_reducible rfl
  simp only [List.getElem_toArray, List.getElem_cons_zero, List.getElem_cons_succ, Act.put, List.setIfInBounds_toArray, List.set_cons_zero, List.set_cons_succ]
  refine wpAnyH_take (i := 4) (v := ?_) rfl (by kernel_rfl) (by kernel_rfl) (by kernel_rfl) (fun _ _ _ h => h) (Or.inl ⟨by rfl, ?_⟩) hS ?_
  rotate_left 1
  · intro w hSw; (try dsimp only at hSw); go_simp <;> with_reducible rfl
  simp only [List.getElem_toArray, List.getElem_cons_zero, List.getElem_cons_succ, Act.put, List.setIfInBounds_toArray, List.set_cons_zero, List.set_cons_succ]
  refine wpAnyH_take (i := 8) (v := ?_) rfl (by kernel_rfl) (by kernel_rfl) (by kernel_rfl) (fun _ _ _ h => h) (Or.inl ⟨by rfl, ?_⟩) hS ?_
  rotate_left 1
  · intro w hSw; (try dsimp only at hSw); go_simp <;> with_reducible rfl
  simp only [List.getElem_toArray, List.getElem_cons_zero, List.getElem_cons_succ, Act.put, List.setIfInBounds_toArray, List.set_cons_zero, List.set_cons_succ]
  refine wpAnyH_take (i := 9) (v := ?_) rfl (by kernel_rfl) (by kernel_rfl) (by kernel_rfl) (fun _ _ _ h => h) (Or.inl ⟨by rfl, ?_⟩) hS ?_
  rotate_left 1
  · intro w hSw; (try dsimp only at hSw); go_simp <;> with_reducible rfl
  simp only [List.getElem_toArray, List.getElem_cons_zero, List.getElem_cons_succ, Act.put, List.setIfInBounds_toArray, List.set_cons_zero, List.set_cons_succ]
  refine wpAnyH_take (i := 10) (v := ?_) rfl (by kernel_rfl) (by kernel_rfl) (by kernel_rfl) (fun _ _ _ h => h) (Or.inl ⟨by rfl, ?_⟩) hS ?_
  rotate_left 1
  · intro w hSw; (try dsimp only at hSw); go_simp <;> with_reducible rfl
  simp only [List.getElem_toArray, List.getElem_cons_zero, List.getElem_cons_succ, Act.put, List.setIfInBounds_toArray, List.set_cons_zero, List.set_cons_succ]
  refine wpAnyH_take (i := 14) (v := ?_) rfl (by kernel_rfl) (by kernel_rfl) (by kernel_rfl) (fun _ _ _ h => h) (Or.inl ⟨by rfl, ?_⟩) hS ?_
  rotate_left 1
  · intro w hSw; (try dsimp only at hSw); go_simp <;> with_reducible rfl
  simp only [List.getElem_toArray, List.getElem_cons_zero, List.getElem_cons_succ, Act.put, List.setIfInBounds_toArray, List.set_cons_zero, List.set_cons_succ]
  refine wpAnyH_take (i := 15) (v := ?_) rfl (by kernel_rfl) (by kernel_rfl) (by kernel_rfl) (fun _ _ _ h => h) (Or.inl ⟨by rfl, ?_⟩) hS ?_
  rotate_left 1
  · intro w hSw; (try dsimp only at hSw); go_simp <;> with_reducible rfl
  simp only [List.getElem_toArray, List.getElem_cons_zero, List.getElem_cons_succ, Act.put, List.setIfInBounds_toArray, List.set_cons_zero, List.set_cons_succ]
  refine wpAnyH_take (i := 16) (v := ?_) rfl (by kernel_rfl) (by kernel_rfl) (by kernel_rfl) (fun _ _ _ h => h) (Or.inl ⟨by rfl, ?_⟩) hS ?_
  rotate_left 1
  · intro w hSw; (try dsimp only at hSw); go_simp <;> with_reducible rfl
  simp only [List.getElem_toArray, List.getElem_cons_zero, List.getElem_cons_succ, Act.put, List.setIfInBounds_toArray, List.set_cons_zero, List.set_cons_succ]
  refine wpAnyH_take (i := 20) (v := ?_) rfl (by kernel_rfl) (by kernel_rfl) (by kernel_rfl) (fun _ _ _ h => h) (Or.inl ⟨by rfl, ?_⟩) hS ?_
  rotate_left 1
  · intro w hSw; (try dsimp only at hSw); go_simp <;> with_reducible rfl
  simp only [List.getElem_toArray, List.getElem_cons_zero, List.getElem_cons_succ, Act.put, List.setIfInBounds_toArray, List.set_cons_zero, List.set_cons_succ]
  refine wpAnyH_take (i := 21) (v := ?_) rfl (by kernel_rfl) (by kernel_rfl) (by kernel_rfl) (fun _ _ _ h => h) (Or.inl ⟨by rfl, ?_⟩) hS ?_
  rotate_left 1
  · intro w hSw; (try dsimp only at hSw); go_simp <;> with_reducible rfl
  simp only [List.getElem_toArray, List.getElem_cons_zero, List.getElem_cons_succ, Act.put, List.setIfInBounds_toArray, List.set_cons_zero, List.set_cons_succ]
  refine wpAnyH_take (i := 22) (v := ?_) rfl (by kernel_rfl) (by kernel_rfl) (by kernel_rfl) (fun _ _ _ h => h) (Or.inl ⟨by rfl, ?_⟩) hS ?_
  rotate_left 1
  · intro w hSw; (try dsimp only at hSw); go_simp <;> with_reducible rfl
  simp only [List.getElem_toArray, List.getElem_cons_zero, List.getElem_cons_succ, Act.put, List.setIfInBounds_toArray, List.set_cons_zero, List.set_cons_succ]
  refine wpAnyH_take (i := 25) (v := ?_) rfl (by kernel_rfl) (by kernel_rfl) (by kernel_rfl) (fun _ _ _ h => h) (Or.inl ⟨by rfl, ?_⟩) hS ?_
  rotate_left 1
  · intro w hSw; (try dsimp only at hSw); go_simp <;> with_reducible rfl
  simp only [List.getElem_toArray, List.getElem_cons_zero, List.getElem_cons_succ, Act.put, List.setIfInBounds_toArray, List.set_cons_zero, List.set_cons_succ]
  refine wpAnyH_take (i := 26) (v := ?_) rfl (by kernel_rfl) (by kernel_rfl) (by kernel_rfl) (fun _ _ _ h => h) (Or.inl ⟨by rfl, ?_⟩) hS ?_
  rotate_left 1
  · intro w hSw; (try dsimp only at hSw); go_simp <;> with_reducible rfl
  simp only [List.getElem_toArray, List.getElem_cons_zero, List.getElem_cons_succ, Act.put, List.setIfInBounds_toArray, List.set_cons_zero, List.set_cons_succ]
  refine wpAnyH_take (i := 27) (v := ?_) rfl (by kernel_rfl) (by kernel_rfl) (by kernel_rfl) (fun _ _ _ h => h) (Or.inl ⟨by rfl, ?_⟩) hS ?_
  rotate_left 1
  · intro w hSw; (try dsimp only at hSw); go_simp <;> with_reducible rfl
  simp only [List.getElem_toArray, List.getElem_cons_zero, List.getElem_cons_succ, Act.put, List.setIfInBounds_toArray, List.set_cons_zero, List.set_cons_succ]
  refine wpAnyH_invN_at (Rel := fun a' l a w' => ∃ x11 x15 x16 x17 x21 x22 x23 x27 x28 x29 x33 x34 x38 x39 x9 x40 x41 x7 x8, a = (((((((((((((((((((a'.put (some 11) x11).put (some 15) x15).put (some 16) x16).put (some 17) x17).put (some 21) x21).put (some 22) x22).put (some 23) x23).put (some 27) x27).put (some 28) x28).put (some 29) x29).put (some 33) x33).put (some 34) x34).put (some 38) x38).put (some 39) x39).put (some 9) x9).put (some 40) x40).put (some 41) x41).put (some 7) x7).put (some 8) x8) ∧ (Below w.heap.size w w' ∧ EntAt w' GR EntMath.zero) ∧ ((l.getD 34 false = true → l.getD 33 false = true) ∧ (l.getD 34 false = true → l.getD 6 false = true ∧ l.getD 11 false = true ∧ l.getD 12 false = true ∧ l.getD 17 false = true ∧ l.getD 18 false = true ∧ l.getD 23 false = true ∧ l.getD 24 false = true)) ∧ (l.getD 1 false = true → x11 = .string (strN F)) ∧ (l.getD 5 false = true → l.getD 34 false = false → MemS w' x15 2 (iz [103, (c : Int)]) 5) ∧ (l.getD 6 false = true → x16 = .string (strN gd)) ∧ (l.getD 7 false = true → l.getD 34 false = false → MemS w' x17 4 (sv titles6) 9) ∧ (l.getD 11 false = true → l.getD 34 false = false → MemP w' x21 ti (sv titles6)) ∧ (l.getD 12 false = true → x22 = .string (strN tt)) ∧ (l.getD 13 false = true → l.getD 34 false = false → MemS w' x23 2 (sv links6) 9) ∧ (l.getD 17 false = true → l.getD 34 false = false → MemP w' x27 li (sv links6)) ∧ (l.getD 18 false = true → x28 = .string (strN ll)) ∧ (l.getD 19 false = true → l.getD 34 false = false → MemS w' x29 3 (sv bodies6) 9) ∧ (l.getD 23 false = true → l.getD 34 false = false → MemP w' x33 bi (sv bodies6)) ∧ (l.getD 24 false = true → x34 = .string (strN bb)) ∧ (l.getD 28 false = true → x38 = .agg #[.string (strN F), .string (strN gd), .string (strN tt), .string (strN ll), .string (strN bb), .int .i64 (am : Int)]) ∧ (l.getD 29 false = true → x39 = .tuple #[.agg #[.string (strN F), .string (strN gd), .string (strN tt), .string (strN ll), .string (strN bb), .int .i64 (am : Int)], .int .i64 0]) ∧ (l.getD 30 false = true → x9 = .tuple #[.agg #[.string (strN F), .string (strN gd), .string (strN tt), .string (strN ll), .string (strN bb), .int .i64 (am : Int)], .int .i64 0]) ∧ (l.getD 31 false = true → x40 = .agg #[.string (strN F), .string (strN gd), .string (strN tt), .string (strN ll), .string (strN bb), .int .i64 (am : Int)]) ∧ (l.getD 32 false = true → x41 = .int .i64 0) ∧ (l.getD 33 false = true → MemE w' x7 GR (if l.getD 34 false = true then (⟨F, gd, tt, ll, bb, (am : Int)⟩ : E) else EntMath.zero)) ∧ (l.getD 35 false = true → x8 = .int .i64 0)) (rs := [1, 5, 6, 7, 11, 12, 13, 17, 18, 19, 23, 24, 28, 29, 30, 31, 32, 33, 34, 35]) (by kernel_rfl) (by kernel_rfl) (by kernel_rfl) (of_decide_eq_true (by kernel_rfl)) ?_ ?_ ?_
  · exact h0 _ _ _ (of_decide_eq_true (by kernel_rfl)) (by kernel_rfl) (by kernel_rfl) (by kernel_rfl) (by kernel_rfl) (by kernel_rfl) (by kernel_rfl) (by kernel_rfl) (by kernel_rfl) (by kernel_rfl) (by kernel_rfl) (by kernel_rfl) (by kernel_rfl) (by kernel_rfl) (by kernel_rfl) (by kernel_rfl) (by kernel_rfl) (by kernel_rfl) (by kernel_rfl) (by kernel_rfl) (by kernel_rfl) HB0.out.drew ⟨Arr.drew HZ.out.arr⟩
  · simp only [Act.put, List.setIfInBounds_toArray, List.set_cons_zero, List.set_cons_succ]
    refine InvStepsN.cons rfl (fun l a w' hsz hni hI hdep K hK => ?_) (InvStepsN.cons rfl (fun l a w' hsz hni hI hdep K hK => ?_) (InvStepsN.cons rfl (fun l a w' hsz hni hI hdep K hK => ?_) (InvStepsN.cons rfl (fun l a w' hsz hni hI hdep K hK => ?_) (InvStepsN.cons rfl (fun l a w' hsz hni hI hdep K hK => ?_) (InvStepsN.cons rfl (fun l a w' hsz hni hI hdep K hK => ?_) (InvStepsN.cons rfl (fun l a w' hsz hni hI hdep K hK => ?_) (InvStepsN.cons rfl (fun l a w' hsz hni hI hdep K hK => ?_) (InvStepsN.cons rfl (fun l a w' hsz hni hI hdep K hK => ?_) (InvStepsN.cons rfl (fun l a w' hsz hni hI hdep K hK => ?_) (InvStepsN.cons rfl (fun l a w' hsz hni hI hdep K hK => ?_) (InvStepsN.cons rfl (fun l a w' hsz hni hI hdep K hK => ?_) (InvStepsN.cons rfl (fun l a w' hsz hni hI hdep K hK => ?_) (InvStepsN.cons rfl (fun l a w' hsz hni hI hdep K hK => ?_) (InvStepsN.cons rfl (fun l a w' hsz hni hI hdep K hK => ?_) (InvStepsN.cons rfl (fun l a w' hsz hni hI hdep K hK => ?_) (InvStepsN.cons rfl (fun l a w' hsz hni hI hdep K hK => ?_) (InvStepsN.cons rfl (fun l a w' hsz hni hI hdep K hK => ?_) (InvStepsN.cons rfl (fun l a w' hsz hni hI hdep K hK => ?_) (InvStepsN.cons rfl (fun l a w' hsz hni hI hdep K hK => ?_) (InvStepsN.nil))))))))))))))))))))
    · obtain ⟨x11, x15, x16, x17, x21, x22, x23, x27, x28, x29, x33, x34, x38, x39, x9, x40, x41, x7, x8, rfl, ⟨hB, hR⟩, ⟨o1, o2⟩, h1, h5, h6, h7, h11, h12, h13, h17, h18, h19, h23, h24, h28, h29, h30, h31, h32, h33, h35⟩ := hI
      have H1 : Hid _ := h1
      have H5 : Hid _ := h5
      have H6 : Hid _ := h6
      have H7 : Hid _ := h7
      have H11 : Hid _ := h11
      have H12 : Hid _ := h12
      have H13 : Hid _ := h13
      have H17 : Hid _ := h17
      have H18 : Hid _ := h18
      have H19 : Hid _ := h19
      have H23 : Hid _ := h23
      have H24 : Hid _ := h24
      have H28 : Hid _ := h28
      have H29 : Hid _ := h29
      have H30 : Hid _ := h30
      have H31 : Hid _ := h31
      have H32 : Hid _ := h32
      have H33 : Hid _ := h33
      have H35 : Hid _ := h35
      have HO1 : Hid _ := o1
      have HO2 : Hid _ := o2
      have HNI : Hid _ := hni
      have HSZ : Hid _ := hsz
      have HRR : Hid _ := hR
      have HBB : Hid _ := hB
      clear h1 h5 h6 h7 h11 h12 h13 h17 h18 h19 h23 h24 h28 h29 h30 h31 h32 h33 h35 hdep o1 o2 hni hsz hR hB 
      go_simp
      refine Calls.mono (HAd.out _) ?_
      rintro r w2 ⟨rfl, hb⟩
      refine hK.out _ _ ⟨.string (strN F), x15, x16, x17, x21, x22, x23, x27, x28, x29, x33, x34, x38, x39, x9, x40, x41, x7, x8, rfl, ⟨HBB.out.trans (hb.mono HBB.out.size), HRR.out.later hb HRR.out.lt⟩, ⟨fun h => up_set (HO1.out (up_keep h (by decide))), fun h => ⟨up_set (HO2.out (up_keep h (by decide))).1, up_set (HO2.out (up_keep h (by decide))).2.1, up_set (HO2.out (up_keep h (by decide))).2.2.1, up_set (HO2.out (up_keep h (by decide))).2.2.2.1, up_set (HO2.out (up_keep h (by decide))).2.2.2.2.1, up_set (HO2.out (up_keep h (by decide))).2.2.2.2.2.1, up_set (HO2.out (up_keep h (by decide))).2.2.2.2.2.2⟩⟩, fun _ => rfl, fun h hn => (H5.out (up_keep h (by decide)) (by rw [set_other (by decide)] at hn; exact hn)).later hb, fun h => H6.out (up_keep h (by decide)), fun h hn => (H7.out (up_keep h (by decide)) (by rw [set_other (by decide)] at hn; exact hn)).later hb, fun h hn => (H11.out (up_keep h (by decide)) (by rw [set_other (by decide)] at hn; exact hn)).later hb, fun h => H12.out (up_keep h (by decide)), fun h hn => (H13.out (up_keep h (by decide)) (by rw [set_other (by decide)] at hn; exact hn)).later hb, fun h hn => (H17.out (up_keep h (by decide)) (by rw [set_other (by decide)] at hn; exact hn)).later hb, fun h => H18.out (up_keep h (by decide)), fun h hn => (H19.out (up_keep h (by decide)) (by rw [set_other (by decide)] at hn; exact hn)).later hb, fun h hn => (H23.out (up_keep h (by decide)) (by rw [set_other (by decide)] at hn; exact hn)).later hb, fun h => H24.out (up_keep h (by decide)), fun h => H28.out (up_keep h (by decide)), fun h => H29.out (up_keep h (by decide)), fun h => H30.out (up_keep h (by decide)), fun h => H31.out (up_keep h (by decide)), fun h => H32.out (up_keep h (by decide)), fun h => by rw [set_other (by decide)]; exact (H33.out (up_keep h (by decide))).later hb, fun h => H35.out (up_keep h (by decide))⟩
    · obtain ⟨x11, x15, x16, x17, x21, x22, x23, x27, x28, x29, x33, x34, x38, x39, x9, x40, x41, x7, x8, rfl, ⟨hB, hR⟩, ⟨o1, o2⟩, h1, h5, h6, h7, h11, h12, h13, h17, h18, h19, h23, h24, h28, h29, h30, h31, h32, h33, h35⟩ := hI
      have H1 : Hid _ := h1
      have H5 : Hid _ := h5
      have H6 : Hid _ := h6
      have H7 : Hid _ := h7
      have H11 : Hid _ := h11
      have H12 : Hid _ := h12
      have H13 : Hid _ := h13
      have H17 : Hid _ := h17
      have H18 : Hid _ := h18
      have H19 : Hid _ := h19
      have H23 : Hid _ := h23
      have H24 : Hid _ := h24
      have H28 : Hid _ := h28
      have H29 : Hid _ := h29
      have H30 : Hid _ := h30
      have H31 : Hid _ := h31
      have H32 : Hid _ := h32
      have H33 : Hid _ := h33
      have H35 : Hid _ := h35
      have HO1 : Hid _ := o1
      have HO2 : Hid _ := o2
      have HNI : Hid _ := hni
      have HSZ : Hid _ := hsz
      have HRR : Hid _ := hR
      have HBB : Hid _ := hB
      clear h1 h5 h6 h7 h11 h12 h13 h17 h18 h19 h23 h24 h28 h29 h30 h31 h32 h33 h35 hdep o1 o2 hni hsz hR hB 
      go_simp
      refine hK.out _ _ ⟨x11, .slice (some ⟨_, 0, none⟩) 2 2, x16, x17, x21, x22, x23, x27, x28, x29, x33, x34, x38, x39, x9, x40, x41, x7, x8, rfl, ⟨HBB.out.alloc HBB.out.size _, HRR.out.alloc _⟩, ⟨fun h => up_set (HO1.out (up_keep h (by decide))), fun h => ⟨up_set (HO2.out (up_keep h (by decide))).1, up_set (HO2.out (up_keep h (by decide))).2.1, up_set (HO2.out (up_keep h (by decide))).2.2.1, up_set (HO2.out (up_keep h (by decide))).2.2.2.1, up_set (HO2.out (up_keep h (by decide))).2.2.2.2.1, up_set (HO2.out (up_keep h (by decide))).2.2.2.2.2.1, up_set (HO2.out (up_keep h (by decide))).2.2.2.2.2.2⟩⟩, fun h => H1.out (up_keep h (by decide)), fun _ _ => ⟨_, rfl, Arr.new _ _ (iz [103, (c : Int)]) rfl⟩, fun h => H6.out (up_keep h (by decide)), fun h hn => (H7.out (up_keep h (by decide)) (by rw [set_other (by decide)] at hn; exact hn)).later ((Below.refl _ _).alloc (Nat.le_refl _) _), fun h hn => (H11.out (up_keep h (by decide)) (by rw [set_other (by decide)] at hn; exact hn)).later ((Below.refl _ _).alloc (Nat.le_refl _) _), fun h => H12.out (up_keep h (by decide)), fun h hn => (H13.out (up_keep h (by decide)) (by rw [set_other (by decide)] at hn; exact hn)).later ((Below.refl _ _).alloc (Nat.le_refl _) _), fun h hn => (H17.out (up_keep h (by decide)) (by rw [set_other (by decide)] at hn; exact hn)).later ((Below.refl _ _).alloc (Nat.le_refl _) _), fun h => H18.out (up_keep h (by decide)), fun h hn => (H19.out (up_keep h (by decide)) (by rw [set_other (by decide)] at hn; exact hn)).later ((Below.refl _ _).alloc (Nat.le_refl _) _), fun h hn => (H23.out (up_keep h (by decide)) (by rw [set_other (by decide)] at hn; exact hn)).later ((Below.refl _ _).alloc (Nat.le_refl _) _), fun h => H24.out (up_keep h (by decide)), fun h => H28.out (up_keep h (by decide)), fun h => H29.out (up_keep h (by decide)), fun h => H30.out (up_keep h (by decide)), fun h => H31.out (up_keep h (by decide)), fun h => H32.out (up_keep h (by decide)), fun h => by rw [set_other (by decide)]; exact (H33.out (up_keep h (by decide))).later ((Below.refl _ _).alloc (Nat.le_refl _) _), fun h => H35.out (up_keep h (by decide))⟩
    · obtain ⟨x11, x15, x16, x17, x21, x22, x23, x27, x28, x29, x33, x34, x38, x39, x9, x40, x41, x7, x8, rfl, ⟨hB, hR⟩, ⟨o1, o2⟩, h1, h5, h6, h7, h11, h12, h13, h17, h18, h19, h23, h24, h28, h29, h30, h31, h32, h33, h35⟩ := hI
      have n34 : l.getD 34 false = false := by
        cases hq : l.getD 34 false with
        | false => rfl
        | true => have := (o2 hq).1; rw [hni] at this; cases this
      have d5 := h5 (hdep { on := 5, ground := .data } (by simp) rfl) n34
      obtain ⟨q5, hx5, hA5⟩ := d5
      subst hx5
      have hcv := HGs.out w' q5 hA5
      have H1 : Hid _ := h1
      have H5 : Hid _ := h5
      have H6 : Hid _ := h6
      have H7 : Hid _ := h7
      have H11 : Hid _ := h11
      have H12 : Hid _ := h12
      have H13 : Hid _ := h13
      have H17 : Hid _ := h17
      have H18 : Hid _ := h18
      have H19 : Hid _ := h19
      have H23 : Hid _ := h23
      have H24 : Hid _ := h24
      have H28 : Hid _ := h28
      have H29 : Hid _ := h29
      have H30 : Hid _ := h30
      have H31 : Hid _ := h31
      have H32 : Hid _ := h32
      have H33 : Hid _ := h33
      have H35 : Hid _ := h35
      have HO1 : Hid _ := o1
      have HO2 : Hid _ := o2
      have HNI : Hid _ := hni
      have HSZ : Hid _ := hsz
      have HRR : Hid _ := hR
      have HBB : Hid _ := hB
      have HM5 : Hid _ := hA5
      clear h1 h5 h6 h7 h11 h12 h13 h17 h18 h19 h23 h24 h28 h29 h30 h31 h32 h33 h35 hdep o1 o2 hni hsz hR hB 
      go_simp
      refine hK.out _ _ ⟨x11, .slice (some ⟨q5, 0, none⟩) 2 2, .string (strN gd), x17, x21, x22, x23, x27, x28, x29, x33, x34, x38, x39, x9, x40, x41, x7, x8, rfl, ⟨HBB.out, HRR.out⟩, ⟨fun h => up_set (HO1.out (up_keep h (by decide))), fun h => ⟨up_set (HO2.out (up_keep h (by decide))).1, up_set (HO2.out (up_keep h (by decide))).2.1, up_set (HO2.out (up_keep h (by decide))).2.2.1, up_set (HO2.out (up_keep h (by decide))).2.2.2.1, up_set (HO2.out (up_keep h (by decide))).2.2.2.2.1, up_set (HO2.out (up_keep h (by decide))).2.2.2.2.2.1, up_set (HO2.out (up_keep h (by decide))).2.2.2.2.2.2⟩⟩, fun h => H1.out (up_keep h (by decide)), fun h hn => ⟨_, rfl, HM5.out⟩, fun _ => rfl, fun h hn => H7.out (up_keep h (by decide)) (by rw [set_other (by decide)] at hn; exact hn), fun h hn => H11.out (up_keep h (by decide)) (by rw [set_other (by decide)] at hn; exact hn), fun h => H12.out (up_keep h (by decide)), fun h hn => H13.out (up_keep h (by decide)) (by rw [set_other (by decide)] at hn; exact hn), fun h hn => H17.out (up_keep h (by decide)) (by rw [set_other (by decide)] at hn; exact hn), fun h => H18.out (up_keep h (by decide)), fun h hn => H19.out (up_keep h (by decide)) (by rw [set_other (by decide)] at hn; exact hn), fun h hn => H23.out (up_keep h (by decide)) (by rw [set_other (by decide)] at hn; exact hn), fun h => H24.out (up_keep h (by decide)), fun h => H28.out (up_keep h (by decide)), fun h => H29.out (up_keep h (by decide)), fun h => H30.out (up_keep h (by decide)), fun h => H31.out (up_keep h (by decide)), fun h => H32.out (up_keep h (by decide)), fun h => by rw [set_other (by decide)]; exact H33.out (up_keep h (by decide)), fun h => H35.out (up_keep h (by decide))⟩
    · obtain ⟨x11, x15, x16, x17, x21, x22, x23, x27, x28, x29, x33, x34, x38, x39, x9, x40, x41, x7, x8, rfl, ⟨hB, hR⟩, ⟨o1, o2⟩, h1, h5, h6, h7, h11, h12, h13, h17, h18, h19, h23, h24, h28, h29, h30, h31, h32, h33, h35⟩ := hI
      have H1 : Hid _ := h1
      have H5 : Hid _ := h5
      have H6 : Hid _ := h6
      have H7 : Hid _ := h7
      have H11 : Hid _ := h11
      have H12 : Hid _ := h12
      have H13 : Hid _ := h13
      have H17 : Hid _ := h17
      have H18 : Hid _ := h18
      have H19 : Hid _ := h19
      have H23 : Hid _ := h23
      have H24 : Hid _ := h24
      have H28 : Hid _ := h28
      have H29 : Hid _ := h29
      have H30 : Hid _ := h30
      have H31 : Hid _ := h31
      have H32 : Hid _ := h32
      have H33 : Hid _ := h33
      have H35 : Hid _ := h35
      have HO1 : Hid _ := o1
      have HO2 : Hid _ := o2
      have HNI : Hid _ := hni
      have HSZ : Hid _ := hsz
      have HRR : Hid _ := hR
      have HBB : Hid _ := hB
      clear h1 h5 h6 h7 h11 h12 h13 h17 h18 h19 h23 h24 h28 h29 h30 h31 h32 h33 h35 hdep o1 o2 hni hsz hR hB 
      go_simp
      refine hK.out _ _ ⟨x11, x15, x16, .slice (some ⟨_, 0, none⟩) 4 4, x21, x22, x23, x27, x28, x29, x33, x34, x38, x39, x9, x40, x41, x7, x8, rfl, ⟨HBB.out.alloc HBB.out.size _, HRR.out.alloc _⟩, ⟨fun h => up_set (HO1.out (up_keep h (by decide))), fun h => ⟨up_set (HO2.out (up_keep h (by decide))).1, up_set (HO2.out (up_keep h (by decide))).2.1, up_set (HO2.out (up_keep h (by decide))).2.2.1, up_set (HO2.out (up_keep h (by decide))).2.2.2.1, up_set (HO2.out (up_keep h (by decide))).2.2.2.2.1, up_set (HO2.out (up_keep h (by decide))).2.2.2.2.2.1, up_set (HO2.out (up_keep h (by decide))).2.2.2.2.2.2⟩⟩, fun h => H1.out (up_keep h (by decide)), fun h hn => (H5.out (up_keep h (by decide)) (by rw [set_other (by decide)] at hn; exact hn)).later ((Below.refl _ _).alloc (Nat.le_refl _) _), fun h => H6.out (up_keep h (by decide)), fun _ _ => ⟨_, rfl, Arr.new _ _ (sv titles6) rfl⟩, fun h hn => (H11.out (up_keep h (by decide)) (by rw [set_other (by decide)] at hn; exact hn)).later ((Below.refl _ _).alloc (Nat.le_refl _) _), fun h => H12.out (up_keep h (by decide)), fun h hn => (H13.out (up_keep h (by decide)) (by rw [set_other (by decide)] at hn; exact hn)).later ((Below.refl _ _).alloc (Nat.le_refl _) _), fun h hn => (H17.out (up_keep h (by decide)) (by rw [set_other (by decide)] at hn; exact hn)).later ((Below.refl _ _).alloc (Nat.le_refl _) _), fun h => H18.out (up_keep h (by decide)), fun h hn => (H19.out (up_keep h (by decide)) (by rw [set_other (by decide)] at hn; exact hn)).later ((Below.refl _ _).alloc (Nat.le_refl _) _), fun h hn => (H23.out (up_keep h (by decide)) (by rw [set_other (by decide)] at hn; exact hn)).later ((Below.refl _ _).alloc (Nat.le_refl _) _), fun h => H24.out (up_keep h (by decide)), fun h => H28.out (up_keep h (by decide)), fun h => H29.out (up_keep h (by decide)), fun h => H30.out (up_keep h (by decide)), fun h => H31.out (up_keep h (by decide)), fun h => H32.out (up_keep h (by decide)), fun h => by rw [set_other (by decide)]; exact (H33.out (up_keep h (by decide))).later ((Below.refl _ _).alloc (Nat.le_refl _) _), fun h => H35.out (up_keep h (by decide))⟩
    · obtain ⟨x11, x15, x16, x17, x21, x22, x23, x27, x28, x29, x33, x34, x38, x39, x9, x40, x41, x7, x8, rfl, ⟨hB, hR⟩, ⟨o1, o2⟩, h1, h5, h6, h7, h11, h12, h13, h17, h18, h19, h23, h24, h28, h29, h30, h31, h32, h33, h35⟩ := hI
      have n34 : l.getD 34 false = false := by
        cases hq : l.getD 34 false with
        | false => rfl
        | true => have := (o2 hq).2.1; rw [hni] at this; cases this
      have d7 := h7 (hdep { on := 7, ground := .data } (by simp) rfl) n34
      obtain ⟨q7, hx7, hA7⟩ := d7
      subst hx7
      have H1 : Hid _ := h1
      have H5 : Hid _ := h5
      have H6 : Hid _ := h6
      have H7 : Hid _ := h7
      have H11 : Hid _ := h11
      have H12 : Hid _ := h12
      have H13 : Hid _ := h13
      have H17 : Hid _ := h17
      have H18 : Hid _ := h18
      have H19 : Hid _ := h19
      have H23 : Hid _ := h23
      have H24 : Hid _ := h24
      have H28 : Hid _ := h28
      have H29 : Hid _ := h29
      have H30 : Hid _ := h30
      have H31 : Hid _ := h31
      have H32 : Hid _ := h32
      have H33 : Hid _ := h33
      have H35 : Hid _ := h35
      have HO1 : Hid _ := o1
      have HO2 : Hid _ := o2
      have HNI : Hid _ := hni
      have HSZ : Hid _ := hsz
      have HRR : Hid _ := hR
      have HBB : Hid _ := hB
      have HM7 : Hid _ := hA7
      clear h1 h5 h6 h7 h11 h12 h13 h17 h18 h19 h23 h24 h28 h29 h30 h31 h32 h33 h35 hdep o1 o2 hni hsz hR hB 
      go_simp
      refine hK.out _ _ ⟨x11, x15, x16, .slice (some ⟨q7, 0, none⟩) 4 4, .pointer (some ⟨_, ti, none⟩), x22, x23, x27, x28, x29, x33, x34, x38, x39, x9, x40, x41, x7, x8, rfl, ⟨HBB.out, HRR.out⟩, ⟨fun h => up_set (HO1.out (up_keep h (by decide))), fun h => ⟨up_set (HO2.out (up_keep h (by decide))).1, up_set (HO2.out (up_keep h (by decide))).2.1, up_set (HO2.out (up_keep h (by decide))).2.2.1, up_set (HO2.out (up_keep h (by decide))).2.2.2.1, up_set (HO2.out (up_keep h (by decide))).2.2.2.2.1, up_set (HO2.out (up_keep h (by decide))).2.2.2.2.2.1, up_set (HO2.out (up_keep h (by decide))).2.2.2.2.2.2⟩⟩, fun h => H1.out (up_keep h (by decide)), fun h hn => H5.out (up_keep h (by decide)) (by rw [set_other (by decide)] at hn; exact hn), fun h => H6.out (up_keep h (by decide)), fun h hn => ⟨_, rfl, HM7.out⟩, fun _ _ => ⟨_, rfl, HM7.out⟩, fun h => H12.out (up_keep h (by decide)), fun h hn => H13.out (up_keep h (by decide)) (by rw [set_other (by decide)] at hn; exact hn), fun h hn => H17.out (up_keep h (by decide)) (by rw [set_other (by decide)] at hn; exact hn), fun h => H18.out (up_keep h (by decide)), fun h hn => H19.out (up_keep h (by decide)) (by rw [set_other (by decide)] at hn; exact hn), fun h hn => H23.out (up_keep h (by decide)) (by rw [set_other (by decide)] at hn; exact hn), fun h => H24.out (up_keep h (by decide)), fun h => H28.out (up_keep h (by decide)), fun h => H29.out (up_keep h (by decide)), fun h => H30.out (up_keep h (by decide)), fun h => H31.out (up_keep h (by decide)), fun h => H32.out (up_keep h (by decide)), fun h => by rw [set_other (by decide)]; exact H33.out (up_keep h (by decide)), fun h => H35.out (up_keep h (by decide))⟩
    · obtain ⟨x11, x15, x16, x17, x21, x22, x23, x27, x28, x29, x33, x34, x38, x39, x9, x40, x41, x7, x8, rfl, ⟨hB, hR⟩, ⟨o1, o2⟩, h1, h5, h6, h7, h11, h12, h13, h17, h18, h19, h23, h24, h28, h29, h30, h31, h32, h33, h35⟩ := hI
      have n34 : l.getD 34 false = false := by
        cases hq : l.getD 34 false with
        | false => rfl
        | true => have := (o2 hq).2.2.1; rw [hni] at this; cases this
      have d11 := h11 (hdep { on := 11, ground := .data } (by simp) rfl) n34
      obtain ⟨q11, hx11, hA11⟩ := d11
      subst hx11
      have hcell := (Arr.cell hA11 ti).trans HT6.out
      have H1 : Hid _ := h1
      have H5 : Hid _ := h5
      have H6 : Hid _ := h6
      have H7 : Hid _ := h7
      have H11 : Hid _ := h11
      have H12 : Hid _ := h12
      have H13 : Hid _ := h13
      have H17 : Hid _ := h17
      have H18 : Hid _ := h18
      have H19 : Hid _ := h19
      have H23 : Hid _ := h23
      have H24 : Hid _ := h24
      have H28 : Hid _ := h28
      have H29 : Hid _ := h29
      have H30 : Hid _ := h30
      have H31 : Hid _ := h31
      have H32 : Hid _ := h32
      have H33 : Hid _ := h33
      have H35 : Hid _ := h35
      have HO1 : Hid _ := o1
      have HO2 : Hid _ := o2
      have HNI : Hid _ := hni
      have HSZ : Hid _ := hsz
      have HRR : Hid _ := hR
      have HBB : Hid _ := hB
      have HM11 : Hid _ := hA11
      clear h1 h5 h6 h7 h11 h12 h13 h17 h18 h19 h23 h24 h28 h29 h30 h31 h32 h33 h35 hdep o1 o2 hni hsz hR hB 
      go_simp
      refine hK.out _ _ ⟨x11, x15, x16, x17, .pointer (some ⟨q11, ti, none⟩), .string (strN tt), x23, x27, x28, x29, x33, x34, x38, x39, x9, x40, x41, x7, x8, rfl, ⟨HBB.out, HRR.out⟩, ⟨fun h => up_set (HO1.out (up_keep h (by decide))), fun h => ⟨up_set (HO2.out (up_keep h (by decide))).1, up_set (HO2.out (up_keep h (by decide))).2.1, up_set (HO2.out (up_keep h (by decide))).2.2.1, up_set (HO2.out (up_keep h (by decide))).2.2.2.1, up_set (HO2.out (up_keep h (by decide))).2.2.2.2.1, up_set (HO2.out (up_keep h (by decide))).2.2.2.2.2.1, up_set (HO2.out (up_keep h (by decide))).2.2.2.2.2.2⟩⟩, fun h => H1.out (up_keep h (by decide)), fun h hn => H5.out (up_keep h (by decide)) (by rw [set_other (by decide)] at hn; exact hn), fun h => H6.out (up_keep h (by decide)), fun h hn => H7.out (up_keep h (by decide)) (by rw [set_other (by decide)] at hn; exact hn), fun h hn => ⟨_, rfl, HM11.out⟩, fun _ => rfl, fun h hn => H13.out (up_keep h (by decide)) (by rw [set_other (by decide)] at hn; exact hn), fun h hn => H17.out (up_keep h (by decide)) (by rw [set_other (by decide)] at hn; exact hn), fun h => H18.out (up_keep h (by decide)), fun h hn => H19.out (up_keep h (by decide)) (by rw [set_other (by decide)] at hn; exact hn), fun h hn => H23.out (up_keep h (by decide)) (by rw [set_other (by decide)] at hn; exact hn), fun h => H24.out (up_keep h (by decide)), fun h => H28.out (up_keep h (by decide)), fun h => H29.out (up_keep h (by decide)), fun h => H30.out (up_keep h (by decide)), fun h => H31.out (up_keep h (by decide)), fun h => H32.out (up_keep h (by decide)), fun h => by rw [set_other (by decide)]; exact H33.out (up_keep h (by decide)), fun h => H35.out (up_keep h (by decide))⟩
    · obtain ⟨x11, x15, x16, x17, x21, x22, x23, x27, x28, x29, x33, x34, x38, x39, x9, x40, x41, x7, x8, rfl, ⟨hB, hR⟩, ⟨o1, o2⟩, h1, h5, h6, h7, h11, h12, h13, h17, h18, h19, h23, h24, h28, h29, h30, h31, h32, h33, h35⟩ := hI
      have H1 : Hid _ := h1
      have H5 : Hid _ := h5
      have H6 : Hid _ := h6
      have H7 : Hid _ := h7
      have H11 : Hid _ := h11
      have H12 : Hid _ := h12
      have H13 : Hid _ := h13
      have H17 : Hid _ := h17
      have H18 : Hid _ := h18
      have H19 : Hid _ := h19
      have H23 : Hid _ := h23
      have H24 : Hid _ := h24
      have H28 : Hid _ := h28
      have H29 : Hid _ := h29
      have H30 : Hid _ := h30
      have H31 : Hid _ := h31
      have H32 : Hid _ := h32
      have H33 : Hid _ := h33
      have H35 : Hid _ := h35
      have HO1 : Hid _ := o1
      have HO2 : Hid _ := o2
      have HNI : Hid _ := hni
      have HSZ : Hid _ := hsz
      have HRR : Hid _ := hR
      have HBB : Hid _ := hB
      clear h1 h5 h6 h7 h11 h12 h13 h17 h18 h19 h23 h24 h28 h29 h30 h31 h32 h33 h35 hdep o1 o2 hni hsz hR hB 
      go_simp
      refine hK.out _ _ ⟨x11, x15, x16, x17, x21, x22, .slice (some ⟨_, 0, none⟩) 2 2, x27, x28, x29, x33, x34, x38, x39, x9, x40, x41, x7, x8, rfl, ⟨HBB.out.alloc HBB.out.size _, HRR.out.alloc _⟩, ⟨fun h => up_set (HO1.out (up_keep h (by decide))), fun h => ⟨up_set (HO2.out (up_keep h (by decide))).1, up_set (HO2.out (up_keep h (by decide))).2.1, up_set (HO2.out (up_keep h (by decide))).2.2.1, up_set (HO2.out (up_keep h (by decide))).2.2.2.1, up_set (HO2.out (up_keep h (by decide))).2.2.2.2.1, up_set (HO2.out (up_keep h (by decide))).2.2.2.2.2.1, up_set (HO2.out (up_keep h (by decide))).2.2.2.2.2.2⟩⟩, fun h => H1.out (up_keep h (by decide)), fun h hn => (H5.out (up_keep h (by decide)) (by rw [set_other (by decide)] at hn; exact hn)).later ((Below.refl _ _).alloc (Nat.le_refl _) _), fun h => H6.out (up_keep h (by decide)), fun h hn => (H7.out (up_keep h (by decide)) (by rw [set_other (by decide)] at hn; exact hn)).later ((Below.refl _ _).alloc (Nat.le_refl _) _), fun h hn => (H11.out (up_keep h (by decide)) (by rw [set_other (by decide)] at hn; exact hn)).later ((Below.refl _ _).alloc (Nat.le_refl _) _), fun h => H12.out (up_keep h (by decide)), fun _ _ => ⟨_, rfl, Arr.new _ _ (sv links6) rfl⟩, fun h hn => (H17.out (up_keep h (by decide)) (by rw [set_other (by decide)] at hn; exact hn)).later ((Below.refl _ _).alloc (Nat.le_refl _) _), fun h => H18.out (up_keep h (by decide)), fun h hn => (H19.out (up_keep h (by decide)) (by rw [set_other (by decide)] at hn; exact hn)).later ((Below.refl _ _).alloc (Nat.le_refl _) _), fun h hn => (H23.out (up_keep h (by decide)) (by rw [set_other (by decide)] at hn; exact hn)).later ((Below.refl _ _).alloc (Nat.le_refl _) _), fun h => H24.out (up_keep h (by decide)), fun h => H28.out (up_keep h (by decide)), fun h => H29.out (up_keep h (by decide)), fun h => H30.out (up_keep h (by decide)), fun h => H31.out (up_keep h (by decide)), fun h => H32.out (up_keep h (by decide)), fun h => by rw [set_other (by decide)]; exact (H33.out (up_keep h (by decide))).later ((Below.refl _ _).alloc (Nat.le_refl _) _), fun h => H35.out (up_keep h (by decide))⟩
    · obtain ⟨x11, x15, x16, x17, x21, x22, x23, x27, x28, x29, x33, x34, x38, x39, x9, x40, x41, x7, x8, rfl, ⟨hB, hR⟩, ⟨o1, o2⟩, h1, h5, h6, h7, h11, h12, h13, h17, h18, h19, h23, h24, h28, h29, h30, h31, h32, h33, h35⟩ := hI
      have n34 : l.getD 34 false = false := by
        cases hq : l.getD 34 false with
        | false => rfl
        | true => have := (o2 hq).2.2.2.1; rw [hni] at this; cases this
      have d13 := h13 (hdep { on := 13, ground := .data } (by simp) rfl) n34
      obtain ⟨q13, hx13, hA13⟩ := d13
      subst hx13
      have H1 : Hid _ := h1
      have H5 : Hid _ := h5
      have H6 : Hid _ := h6
      have H7 : Hid _ := h7
      have H11 : Hid _ := h11
      have H12 : Hid _ := h12
      have H13 : Hid _ := h13
      have H17 : Hid _ := h17
      have H18 : Hid _ := h18
      have H19 : Hid _ := h19
      have H23 : Hid _ := h23
      have H24 : Hid _ := h24
      have H28 : Hid _ := h28
      have H29 : Hid _ := h29
      have H30 : Hid _ := h30
      have H31 : Hid _ := h31
      have H32 : Hid _ := h32
      have H33 : Hid _ := h33
      have H35 : Hid _ := h35
      have HO1 : Hid _ := o1
      have HO2 : Hid _ := o2
      have HNI : Hid _ := hni
      have HSZ : Hid _ := hsz
      have HRR : Hid _ := hR
      have HBB : Hid _ := hB
      have HM13 : Hid _ := hA13
      clear h1 h5 h6 h7 h11 h12 h13 h17 h18 h19 h23 h24 h28 h29 h30 h31 h32 h33 h35 hdep o1 o2 hni hsz hR hB 
      go_simp
      refine hK.out _ _ ⟨x11, x15, x16, x17, x21, x22, .slice (some ⟨q13, 0, none⟩) 2 2, .pointer (some ⟨_, li, none⟩), x28, x29, x33, x34, x38, x39, x9, x40, x41, x7, x8, rfl, ⟨HBB.out, HRR.out⟩, ⟨fun h => up_set (HO1.out (up_keep h (by decide))), fun h => ⟨up_set (HO2.out (up_keep h (by decide))).1, up_set (HO2.out (up_keep h (by decide))).2.1, up_set (HO2.out (up_keep h (by decide))).2.2.1, up_set (HO2.out (up_keep h (by decide))).2.2.2.1, up_set (HO2.out (up_keep h (by decide))).2.2.2.2.1, up_set (HO2.out (up_keep h (by decide))).2.2.2.2.2.1, up_set (HO2.out (up_keep h (by decide))).2.2.2.2.2.2⟩⟩, fun h => H1.out (up_keep h (by decide)), fun h hn => H5.out (up_keep h (by decide)) (by rw [set_other (by decide)] at hn; exact hn), fun h => H6.out (up_keep h (by decide)), fun h hn => H7.out (up_keep h (by decide)) (by rw [set_other (by decide)] at hn; exact hn), fun h hn => H11.out (up_keep h (by decide)) (by rw [set_other (by decide)] at hn; exact hn), fun h => H12.out (up_keep h (by decide)), fun h hn => ⟨_, rfl, HM13.out⟩, fun _ _ => ⟨_, rfl, HM13.out⟩, fun h => H18.out (up_keep h (by decide)), fun h hn => H19.out (up_keep h (by decide)) (by rw [set_other (by decide)] at hn; exact hn), fun h hn => H23.out (up_keep h (by decide)) (by rw [set_other (by decide)] at hn; exact hn), fun h => H24.out (up_keep h (by decide)), fun h => H28.out (up_keep h (by decide)), fun h => H29.out (up_keep h (by decide)), fun h => H30.out (up_keep h (by decide)), fun h => H31.out (up_keep h (by decide)), fun h => H32.out (up_keep h (by decide)), fun h => by rw [set_other (by decide)]; exact H33.out (up_keep h (by decide)), fun h => H35.out (up_keep h (by decide))⟩
    · obtain ⟨x11, x15, x16, x17, x21, x22, x23, x27, x28, x29, x33, x34, x38, x39, x9, x40, x41, x7, x8, rfl, ⟨hB, hR⟩, ⟨o1, o2⟩, h1, h5, h6, h7, h11, h12, h13, h17, h18, h19, h23, h24, h28, h29, h30, h31, h32, h33, h35⟩ := hI
      have n34 : l.getD 34 false = false := by
        cases hq : l.getD 34 false with
        | false => rfl
        | true => have := (o2 hq).2.2.2.2.1; rw [hni] at this; cases this
      have d17 := h17 (hdep { on := 17, ground := .data } (by simp) rfl) n34
      obtain ⟨q17, hx17, hA17⟩ := d17
      subst hx17
      have hcell := (Arr.cell hA17 li).trans HL6.out
      have H1 : Hid _ := h1
      have H5 : Hid _ := h5
      have H6 : Hid _ := h6
      have H7 : Hid _ := h7
      have H11 : Hid _ := h11
      have H12 : Hid _ := h12
      have H13 : Hid _ := h13
      have H17 : Hid _ := h17
      have H18 : Hid _ := h18
      have H19 : Hid _ := h19
      have H23 : Hid _ := h23
      have H24 : Hid _ := h24
      have H28 : Hid _ := h28
      have H29 : Hid _ := h29
      have H30 : Hid _ := h30
      have H31 : Hid _ := h31
      have H32 : Hid _ := h32
      have H33 : Hid _ := h33
      have H35 : Hid _ := h35
      have HO1 : Hid _ := o1
      have HO2 : Hid _ := o2
      have HNI : Hid _ := hni
      have HSZ : Hid _ := hsz
      have HRR : Hid _ := hR
      have HBB : Hid _ := hB
      have HM17 : Hid _ := hA17
      clear h1 h5 h6 h7 h11 h12 h13 h17 h18 h19 h23 h24 h28 h29 h30 h31 h32 h33 h35 hdep o1 o2 hni hsz hR hB 
      go_simp
      refine hK.out _ _ ⟨x11, x15, x16, x17, x21, x22, x23, .pointer (some ⟨q17, li, none⟩), .string (strN ll), x29, x33, x34, x38, x39, x9, x40, x41, x7, x8, rfl, ⟨HBB.out, HRR.out⟩, ⟨fun h => up_set (HO1.out (up_keep h (by decide))), fun h => ⟨up_set (HO2.out (up_keep h (by decide))).1, up_set (HO2.out (up_keep h (by decide))).2.1, up_set (HO2.out (up_keep h (by decide))).2.2.1, up_set (HO2.out (up_keep h (by decide))).2.2.2.1, up_set (HO2.out (up_keep h (by decide))).2.2.2.2.1, up_set (HO2.out (up_keep h (by decide))).2.2.2.2.2.1, up_set (HO2.out (up_keep h (by decide))).2.2.2.2.2.2⟩⟩, fun h => H1.out (up_keep h (by decide)), fun h hn => H5.out (up_keep h (by decide)) (by rw [set_other (by decide)] at hn; exact hn), fun h => H6.out (up_keep h (by decide)), fun h hn => H7.out (up_keep h (by decide)) (by rw [set_other (by decide)] at hn; exact hn), fun h hn => H11.out (up_keep h (by decide)) (by rw [set_other (by decide)] at hn; exact hn), fun h => H12.out (up_keep h (by decide)), fun h hn => H13.out (up_keep h (by decide)) (by rw [set_other (by decide)] at hn; exact hn), fun h hn => ⟨_, rfl, HM17.out⟩, fun _ => rfl, fun h hn => H19.out (up_keep h (by decide)) (by rw [set_other (by decide)] at hn; exact hn), fun h hn => H23.out (up_keep h (by decide)) (by rw [set_other (by decide)] at hn; exact hn), fun h => H24.out (up_keep h (by decide)), fun h => H28.out (up_keep h (by decide)), fun h => H29.out (up_keep h (by decide)), fun h => H30.out (up_keep h (by decide)), fun h => H31.out (up_keep h (by decide)), fun h => H32.out (up_keep h (by decide)), fun h => by rw [set_other (by decide)]; exact H33.out (up_keep h (by decide)), fun h => H35.out (up_keep h (by decide))⟩
    · obtain ⟨x11, x15, x16, x17, x21, x22, x23, x27, x28, x29, x33, x34, x38, x39, x9, x40, x41, x7, x8, rfl, ⟨hB, hR⟩, ⟨o1, o2⟩, h1, h5, h6, h7, h11, h12, h13, h17, h18, h19, h23, h24, h28, h29, h30, h31, h32, h33, h35⟩ := hI
      have H1 : Hid _ := h1
      have H5 : Hid _ := h5
      have H6 : Hid _ := h6
      have H7 : Hid _ := h7
      have H11 : Hid _ := h11
      have H12 : Hid _ := h12
      have H13 : Hid _ := h13
      have H17 : Hid _ := h17
      have H18 : Hid _ := h18
      have H19 : Hid _ := h19
      have H23 : Hid _ := h23
      have H24 : Hid _ := h24
      have H28 : Hid _ := h28
      have H29 : Hid _ := h29
      have H30 : Hid _ := h30
      have H31 : Hid _ := h31
      have H32 : Hid _ := h32
      have H33 : Hid _ := h33
      have H35 : Hid _ := h35
      have HO1 : Hid _ := o1
      have HO2 : Hid _ := o2
      have HNI : Hid _ := hni
      have HSZ : Hid _ := hsz
      have HRR : Hid _ := hR
      have HBB : Hid _ := hB
      clear h1 h5 h6 h7 h11 h12 h13 h17 h18 h19 h23 h24 h28 h29 h30 h31 h32 h33 h35 hdep o1 o2 hni hsz hR hB 
      go_simp
      refine hK.out _ _ ⟨x11, x15, x16, x17, x21, x22, x23, x27, x28, .slice (some ⟨_, 0, none⟩) 3 3, x33, x34, x38, x39, x9, x40, x41, x7, x8, rfl, ⟨HBB.out.alloc HBB.out.size _, HRR.out.alloc _⟩, ⟨fun h => up_set (HO1.out (up_keep h (by decide))), fun h => ⟨up_set (HO2.out (up_keep h (by decide))).1, up_set (HO2.out (up_keep h (by decide))).2.1, up_set (HO2.out (up_keep h (by decide))).2.2.1, up_set (HO2.out (up_keep h (by decide))).2.2.2.1, up_set (HO2.out (up_keep h (by decide))).2.2.2.2.1, up_set (HO2.out (up_keep h (by decide))).2.2.2.2.2.1, up_set (HO2.out (up_keep h (by decide))).2.2.2.2.2.2⟩⟩, fun h => H1.out (up_keep h (by decide)), fun h hn => (H5.out (up_keep h (by decide)) (by rw [set_other (by decide)] at hn; exact hn)).later ((Below.refl _ _).alloc (Nat.le_refl _) _), fun h => H6.out (up_keep h (by decide)), fun h hn => (H7.out (up_keep h (by decide)) (by rw [set_other (by decide)] at hn; exact hn)).later ((Below.refl _ _).alloc (Nat.le_refl _) _), fun h hn => (H11.out (up_keep h (by decide)) (by rw [set_other (by decide)] at hn; exact hn)).later ((Below.refl _ _).alloc (Nat.le_refl _) _), fun h => H12.out (up_keep h (by decide)), fun h hn => (H13.out (up_keep h (by decide)) (by rw [set_other (by decide)] at hn; exact hn)).later ((Below.refl _ _).alloc (Nat.le_refl _) _), fun h hn => (H17.out (up_keep h (by decide)) (by rw [set_other (by decide)] at hn; exact hn)).later ((Below.refl _ _).alloc (Nat.le_refl _) _), fun h => H18.out (up_keep h (by decide)), fun _ _ => ⟨_, rfl, Arr.new _ _ (sv bodies6) rfl⟩, fun h hn => (H23.out (up_keep h (by decide)) (by rw [set_other (by decide)] at hn; exact hn)).later ((Below.refl _ _).alloc (Nat.le_refl _) _), fun h => H24.out (up_keep h (by decide)), fun h => H28.out (up_keep h (by decide)), fun h => H29.out (up_keep h (by decide)), fun h => H30.out (up_keep h (by decide)), fun h => H31.out (up_keep h (by decide)), fun h => H32.out (up_keep h (by decide)), fun h => by rw [set_other (by decide)]; exact (H33.out (up_keep h (by decide))).later ((Below.refl _ _).alloc (Nat.le_refl _) _), fun h => H35.out (up_keep h (by decide))⟩
    · obtain ⟨x11, x15, x16, x17, x21, x22, x23, x27, x28, x29, x33, x34, x38, x39, x9, x40, x41, x7, x8, rfl, ⟨hB, hR⟩, ⟨o1, o2⟩, h1, h5, h6, h7, h11, h12, h13, h17, h18, h19, h23, h24, h28, h29, h30, h31, h32, h33, h35⟩ := hI
      have n34 : l.getD 34 false = false := by
        cases hq : l.getD 34 false with
        | false => rfl
        | true => have := (o2 hq).2.2.2.2.2.1; rw [hni] at this; cases this
      have d19 := h19 (hdep { on := 19, ground := .data } (by simp) rfl) n34
      obtain ⟨q19, hx19, hA19⟩ := d19
      subst hx19
      have H1 : Hid _ := h1
      have H5 : Hid _ := h5
      have H6 : Hid _ := h6
      have H7 : Hid _ := h7
      have H11 : Hid _ := h11
      have H12 : Hid _ := h12
      have H13 : Hid _ := h13
      have H17 : Hid _ := h17
      have H18 : Hid _ := h18
      have H19 : Hid _ := h19
      have H23 : Hid _ := h23
      have H24 : Hid _ := h24
      have H28 : Hid _ := h28
      have H29 : Hid _ := h29
      have H30 : Hid _ := h30
      have H31 : Hid _ := h31
      have H32 : Hid _ := h32
      have H33 : Hid _ := h33
      have H35 : Hid _ := h35
      have HO1 : Hid _ := o1
      have HO2 : Hid _ := o2
      have HNI : Hid _ := hni
      have HSZ : Hid _ := hsz
      have HRR : Hid _ := hR
      have HBB : Hid _ := hB
      have HM19 : Hid _ := hA19
      clear h1 h5 h6 h7 h11 h12 h13 h17 h18 h19 h23 h24 h28 h29 h30 h31 h32 h33 h35 hdep o1 o2 hni hsz hR hB 
      go_simp
      refine hK.out _ _ ⟨x11, x15, x16, x17, x21, x22, x23, x27, x28, .slice (some ⟨q19, 0, none⟩) 3 3, .pointer (some ⟨_, bi, none⟩), x34, x38, x39, x9, x40, x41, x7, x8, rfl, ⟨HBB.out, HRR.out⟩, ⟨fun h => up_set (HO1.out (up_keep h (by decide))), fun h => ⟨up_set (HO2.out (up_keep h (by decide))).1, up_set (HO2.out (up_keep h (by decide))).2.1, up_set (HO2.out (up_keep h (by decide))).2.2.1, up_set (HO2.out (up_keep h (by decide))).2.2.2.1, up_set (HO2.out (up_keep h (by decide))).2.2.2.2.1, up_set (HO2.out (up_keep h (by decide))).2.2.2.2.2.1, up_set (HO2.out (up_keep h (by decide))).2.2.2.2.2.2⟩⟩, fun h => H1.out (up_keep h (by decide)), fun h hn => H5.out (up_keep h (by decide)) (by rw [set_other (by decide)] at hn; exact hn), fun h => H6.out (up_keep h (by decide)), fun h hn => H7.out (up_keep h (by decide)) (by rw [set_other (by decide)] at hn; exact hn), fun h hn => H11.out (up_keep h (by decide)) (by rw [set_other (by decide)] at hn; exact hn), fun h => H12.out (up_keep h (by decide)), fun h hn => H13.out (up_keep h (by decide)) (by rw [set_other (by decide)] at hn; exact hn), fun h hn => H17.out (up_keep h (by decide)) (by rw [set_other (by decide)] at hn; exact hn), fun h => H18.out (up_keep h (by decide)), fun h hn => ⟨_, rfl, HM19.out⟩, fun _ _ => ⟨_, rfl, HM19.out⟩, fun h => H24.out (up_keep h (by decide)), fun h => H28.out (up_keep h (by decide)), fun h => H29.out (up_keep h (by decide)), fun h => H30.out (up_keep h (by decide)), fun h => H31.out (up_keep h (by decide)), fun h => H32.out (up_keep h (by decide)), fun h => by rw [set_other (by decide)]; exact H33.out (up_keep h (by decide)), fun h => H35.out (up_keep h (by decide))⟩
    · obtain ⟨x11, x15, x16, x17, x21, x22, x23, x27, x28, x29, x33, x34, x38, x39, x9, x40, x41, x7, x8, rfl, ⟨hB, hR⟩, ⟨o1, o2⟩, h1, h5, h6, h7, h11, h12, h13, h17, h18, h19, h23, h24, h28, h29, h30, h31, h32, h33, h35⟩ := hI
      have n34 : l.getD 34 false = false := by
        cases hq : l.getD 34 false with
        | false => rfl
        | true => have := (o2 hq).2.2.2.2.2.2; rw [hni] at this; cases this
      have d23 := h23 (hdep { on := 23, ground := .data } (by simp) rfl) n34
      obtain ⟨q23, hx23, hA23⟩ := d23
      subst hx23
      have hcell := (Arr.cell hA23 bi).trans HB6.out
      have H1 : Hid _ := h1
      have H5 : Hid _ := h5
      have H6 : Hid _ := h6
      have H7 : Hid _ := h7
      have H11 : Hid _ := h11
      have H12 : Hid _ := h12
      have H13 : Hid _ := h13
      have H17 : Hid _ := h17
      have H18 : Hid _ := h18
      have H19 : Hid _ := h19
      have H23 : Hid _ := h23
      have H24 : Hid _ := h24
      have H28 : Hid _ := h28
      have H29 : Hid _ := h29
      have H30 : Hid _ := h30
      have H31 : Hid _ := h31
      have H32 : Hid _ := h32
      have H33 : Hid _ := h33
      have H35 : Hid _ := h35
      have HO1 : Hid _ := o1
      have HO2 : Hid _ := o2
      have HNI : Hid _ := hni
      have HSZ : Hid _ := hsz
      have HRR : Hid _ := hR
      have HBB : Hid _ := hB
      have HM23 : Hid _ := hA23
      clear h1 h5 h6 h7 h11 h12 h13 h17 h18 h19 h23 h24 h28 h29 h30 h31 h32 h33 h35 hdep o1 o2 hni hsz hR hB 
      go_simp
      refine hK.out _ _ ⟨x11, x15, x16, x17, x21, x22, x23, x27, x28, x29, .pointer (some ⟨q23, bi, none⟩), .string (strN bb), x38, x39, x9, x40, x41, x7, x8, rfl, ⟨HBB.out, HRR.out⟩, ⟨fun h => up_set (HO1.out (up_keep h (by decide))), fun h => ⟨up_set (HO2.out (up_keep h (by decide))).1, up_set (HO2.out (up_keep h (by decide))).2.1, up_set (HO2.out (up_keep h (by decide))).2.2.1, up_set (HO2.out (up_keep h (by decide))).2.2.2.1, up_set (HO2.out (up_keep h (by decide))).2.2.2.2.1, up_set (HO2.out (up_keep h (by decide))).2.2.2.2.2.1, up_set (HO2.out (up_keep h (by decide))).2.2.2.2.2.2⟩⟩, fun h => H1.out (up_keep h (by decide)), fun h hn => H5.out (up_keep h (by decide)) (by rw [set_other (by decide)] at hn; exact hn), fun h => H6.out (up_keep h (by decide)), fun h hn => H7.out (up_keep h (by decide)) (by rw [set_other (by decide)] at hn; exact hn), fun h hn => H11.out (up_keep h (by decide)) (by rw [set_other (by decide)] at hn; exact hn), fun h => H12.out (up_keep h (by decide)), fun h hn => H13.out (up_keep h (by decide)) (by rw [set_other (by decide)] at hn; exact hn), fun h hn => H17.out (up_keep h (by decide)) (by rw [set_other (by decide)] at hn; exact hn), fun h => H18.out (up_keep h (by decide)), fun h hn => H19.out (up_keep h (by decide)) (by rw [set_other (by decide)] at hn; exact hn), fun h hn => ⟨_, rfl, HM23.out⟩, fun _ => rfl, fun h => H28.out (up_keep h (by decide)), fun h => H29.out (up_keep h (by decide)), fun h => H30.out (up_keep h (by decide)), fun h => H31.out (up_keep h (by decide)), fun h => H32.out (up_keep h (by decide)), fun h => by rw [set_other (by decide)]; exact H33.out (up_keep h (by decide)), fun h => H35.out (up_keep h (by decide))⟩
    · obtain ⟨x11, x15, x16, x17, x21, x22, x23, x27, x28, x29, x33, x34, x38, x39, x9, x40, x41, x7, x8, rfl, ⟨hB, hR⟩, ⟨o1, o2⟩, h1, h5, h6, h7, h11, h12, h13, h17, h18, h19, h23, h24, h28, h29, h30, h31, h32, h33, h35⟩ := hI
      have d1 := h1 (hdep { on := 1, ground := .data } (by simp) rfl)
      subst d1
      have d6 := h6 (hdep { on := 6, ground := .data } (by simp) rfl)
      subst d6
      have d12 := h12 (hdep { on := 12, ground := .data } (by simp) rfl)
      subst d12
      have d18 := h18 (hdep { on := 18, ground := .data } (by simp) rfl)
      subst d18
      have d24 := h24 (hdep { on := 24, ground := .data } (by simp) rfl)
      subst d24
      have H1 : Hid _ := h1
      have H5 : Hid _ := h5
      have H6 : Hid _ := h6
      have H7 : Hid _ := h7
      have H11 : Hid _ := h11
      have H12 : Hid _ := h12
      have H13 : Hid _ := h13
      have H17 : Hid _ := h17
      have H18 : Hid _ := h18
      have H19 : Hid _ := h19
      have H23 : Hid _ := h23
      have H24 : Hid _ := h24
      have H28 : Hid _ := h28
      have H29 : Hid _ := h29
      have H30 : Hid _ := h30
      have H31 : Hid _ := h31
      have H32 : Hid _ := h32
      have H33 : Hid _ := h33
      have H35 : Hid _ := h35
      have HO1 : Hid _ := o1
      have HO2 : Hid _ := o2
      have HNI : Hid _ := hni
      have HSZ : Hid _ := hsz
      have HRR : Hid _ := hR
      have HBB : Hid _ := hB
      clear h1 h5 h6 h7 h11 h12 h13 h17 h18 h19 h23 h24 h28 h29 h30 h31 h32 h33 h35 hdep o1 o2 hni hsz hR hB 
      go_simp
      refine hK.out _ _ ⟨.string (strN F), x15, .string (strN gd), x17, x21, .string (strN tt), x23, x27, .string (strN ll), x29, x33, .string (strN bb), .agg #[.string (strN F), .string (strN gd), .string (strN tt), .string (strN ll), .string (strN bb), .int .i64 (am : Int)], x39, x9, x40, x41, x7, x8, rfl, ⟨HBB.out, HRR.out⟩, ⟨fun h => up_set (HO1.out (up_keep h (by decide))), fun h => ⟨up_set (HO2.out (up_keep h (by decide))).1, up_set (HO2.out (up_keep h (by decide))).2.1, up_set (HO2.out (up_keep h (by decide))).2.2.1, up_set (HO2.out (up_keep h (by decide))).2.2.2.1, up_set (HO2.out (up_keep h (by decide))).2.2.2.2.1, up_set (HO2.out (up_keep h (by decide))).2.2.2.2.2.1, up_set (HO2.out (up_keep h (by decide))).2.2.2.2.2.2⟩⟩, fun h => H1.out (up_keep h (by decide)), fun h hn => H5.out (up_keep h (by decide)) (by rw [set_other (by decide)] at hn; exact hn), fun h => H6.out (up_keep h (by decide)), fun h hn => H7.out (up_keep h (by decide)) (by rw [set_other (by decide)] at hn; exact hn), fun h hn => H11.out (up_keep h (by decide)) (by rw [set_other (by decide)] at hn; exact hn), fun h => H12.out (up_keep h (by decide)), fun h hn => H13.out (up_keep h (by decide)) (by rw [set_other (by decide)] at hn; exact hn), fun h hn => H17.out (up_keep h (by decide)) (by rw [set_other (by decide)] at hn; exact hn), fun h => H18.out (up_keep h (by decide)), fun h hn => H19.out (up_keep h (by decide)) (by rw [set_other (by decide)] at hn; exact hn), fun h hn => H23.out (up_keep h (by decide)) (by rw [set_other (by decide)] at hn; exact hn), fun h => H24.out (up_keep h (by decide)), fun _ => rfl, fun h => H29.out (up_keep h (by decide)), fun h => H30.out (up_keep h (by decide)), fun h => H31.out (up_keep h (by decide)), fun h => H32.out (up_keep h (by decide)), fun h => by rw [set_other (by decide)]; exact H33.out (up_keep h (by decide)), fun h => H35.out (up_keep h (by decide))⟩
    · obtain ⟨x11, x15, x16, x17, x21, x22, x23, x27, x28, x29, x33, x34, x38, x39, x9, x40, x41, x7, x8, rfl, ⟨hB, hR⟩, ⟨o1, o2⟩, h1, h5, h6, h7, h11, h12, h13, h17, h18, h19, h23, h24, h28, h29, h30, h31, h32, h33, h35⟩ := hI
      have d28 := h28 (hdep { on := 28, ground := .data } (by simp) rfl)
      subst d28
      have H1 : Hid _ := h1
      have H5 : Hid _ := h5
      have H6 : Hid _ := h6
      have H7 : Hid _ := h7
      have H11 : Hid _ := h11
      have H12 : Hid _ := h12
      have H13 : Hid _ := h13
      have H17 : Hid _ := h17
      have H18 : Hid _ := h18
      have H19 : Hid _ := h19
      have H23 : Hid _ := h23
      have H24 : Hid _ := h24
      have H28 : Hid _ := h28
      have H29 : Hid _ := h29
      have H30 : Hid _ := h30
      have H31 : Hid _ := h31
      have H32 : Hid _ := h32
      have H33 : Hid _ := h33
      have H35 : Hid _ := h35
      have HO1 : Hid _ := o1
      have HO2 : Hid _ := o2
      have HNI : Hid _ := hni
      have HSZ : Hid _ := hsz
      have HRR : Hid _ := hR
      have HBB : Hid _ := hB
      clear h1 h5 h6 h7 h11 h12 h13 h17 h18 h19 h23 h24 h28 h29 h30 h31 h32 h33 h35 hdep o1 o2 hni hsz hR hB 
      go_simp
      refine Calls.mono (HCl.out _) ?_
      rintro r w2 ⟨rfl, hb⟩
      refine hK.out _ _ ⟨x11, x15, x16, x17, x21, x22, x23, x27, x28, x29, x33, x34, .agg #[.string (strN F), .string (strN gd), .string (strN tt), .string (strN ll), .string (strN bb), .int .i64 (am : Int)], .tuple #[.agg #[.string (strN F), .string (strN gd), .string (strN tt), .string (strN ll), .string (strN bb), .int .i64 (am : Int)], .int .i64 0], x9, x40, x41, x7, x8, rfl, ⟨HBB.out.trans (hb.mono HBB.out.size), HRR.out.later hb HRR.out.lt⟩, ⟨fun h => up_set (HO1.out (up_keep h (by decide))), fun h => ⟨up_set (HO2.out (up_keep h (by decide))).1, up_set (HO2.out (up_keep h (by decide))).2.1, up_set (HO2.out (up_keep h (by decide))).2.2.1, up_set (HO2.out (up_keep h (by decide))).2.2.2.1, up_set (HO2.out (up_keep h (by decide))).2.2.2.2.1, up_set (HO2.out (up_keep h (by decide))).2.2.2.2.2.1, up_set (HO2.out (up_keep h (by decide))).2.2.2.2.2.2⟩⟩, fun h => H1.out (up_keep h (by decide)), fun h hn => (H5.out (up_keep h (by decide)) (by rw [set_other (by decide)] at hn; exact hn)).later hb, fun h => H6.out (up_keep h (by decide)), fun h hn => (H7.out (up_keep h (by decide)) (by rw [set_other (by decide)] at hn; exact hn)).later hb, fun h hn => (H11.out (up_keep h (by decide)) (by rw [set_other (by decide)] at hn; exact hn)).later hb, fun h => H12.out (up_keep h (by decide)), fun h hn => (H13.out (up_keep h (by decide)) (by rw [set_other (by decide)] at hn; exact hn)).later hb, fun h hn => (H17.out (up_keep h (by decide)) (by rw [set_other (by decide)] at hn; exact hn)).later hb, fun h => H18.out (up_keep h (by decide)), fun h hn => (H19.out (up_keep h (by decide)) (by rw [set_other (by decide)] at hn; exact hn)).later hb, fun h hn => (H23.out (up_keep h (by decide)) (by rw [set_other (by decide)] at hn; exact hn)).later hb, fun h => H24.out (up_keep h (by decide)), fun h => H28.out (up_keep h (by decide)), fun _ => rfl, fun h => H30.out (up_keep h (by decide)), fun h => H31.out (up_keep h (by decide)), fun h => H32.out (up_keep h (by decide)), fun h => by rw [set_other (by decide)]; exact (H33.out (up_keep h (by decide))).later hb, fun h => H35.out (up_keep h (by decide))⟩
    · obtain ⟨x11, x15, x16, x17, x21, x22, x23, x27, x28, x29, x33, x34, x38, x39, x9, x40, x41, x7, x8, rfl, ⟨hB, hR⟩, ⟨o1, o2⟩, h1, h5, h6, h7, h11, h12, h13, h17, h18, h19, h23, h24, h28, h29, h30, h31, h32, h33, h35⟩ := hI
      have d29 := h29 (hdep { on := 29, ground := .data } (by simp) rfl)
      subst d29
      have H1 : Hid _ := h1
      have H5 : Hid _ := h5
      have H6 : Hid _ := h6
      have H7 : Hid _ := h7
      have H11 : Hid _ := h11
      have H12 : Hid _ := h12
      have H13 : Hid _ := h13
      have H17 : Hid _ := h17
      have H18 : Hid _ := h18
      have H19 : Hid _ := h19
      have H23 : Hid _ := h23
      have H24 : Hid _ := h24
      have H28 : Hid _ := h28
      have H29 : Hid _ := h29
      have H30 : Hid _ := h30
      have H31 : Hid _ := h31
      have H32 : Hid _ := h32
      have H33 : Hid _ := h33
      have H35 : Hid _ := h35
      have HO1 : Hid _ := o1
      have HO2 : Hid _ := o2
      have HNI : Hid _ := hni
      have HSZ : Hid _ := hsz
      have HRR : Hid _ := hR
      have HBB : Hid _ := hB
      clear h1 h5 h6 h7 h11 h12 h13 h17 h18 h19 h23 h24 h28 h29 h30 h31 h32 h33 h35 hdep o1 o2 hni hsz hR hB 
      go_simp
      refine hK.out _ _ ⟨x11, x15, x16, x17, x21, x22, x23, x27, x28, x29, x33, x34, x38, .tuple #[.agg #[.string (strN F), .string (strN gd), .string (strN tt), .string (strN ll), .string (strN bb), .int .i64 (am : Int)], .int .i64 0], .tuple #[.agg #[.string (strN F), .string (strN gd), .string (strN tt), .string (strN ll), .string (strN bb), .int .i64 (am : Int)], .int .i64 0], x40, x41, x7, x8, rfl, ⟨HBB.out, HRR.out⟩, ⟨fun h => up_set (HO1.out (up_keep h (by decide))), fun h => ⟨up_set (HO2.out (up_keep h (by decide))).1, up_set (HO2.out (up_keep h (by decide))).2.1, up_set (HO2.out (up_keep h (by decide))).2.2.1, up_set (HO2.out (up_keep h (by decide))).2.2.2.1, up_set (HO2.out (up_keep h (by decide))).2.2.2.2.1, up_set (HO2.out (up_keep h (by decide))).2.2.2.2.2.1, up_set (HO2.out (up_keep h (by decide))).2.2.2.2.2.2⟩⟩, fun h => H1.out (up_keep h (by decide)), fun h hn => H5.out (up_keep h (by decide)) (by rw [set_other (by decide)] at hn; exact hn), fun h => H6.out (up_keep h (by decide)), fun h hn => H7.out (up_keep h (by decide)) (by rw [set_other (by decide)] at hn; exact hn), fun h hn => H11.out (up_keep h (by decide)) (by rw [set_other (by decide)] at hn; exact hn), fun h => H12.out (up_keep h (by decide)), fun h hn => H13.out (up_keep h (by decide)) (by rw [set_other (by decide)] at hn; exact hn), fun h hn => H17.out (up_keep h (by decide)) (by rw [set_other (by decide)] at hn; exact hn), fun h => H18.out (up_keep h (by decide)), fun h hn => H19.out (up_keep h (by decide)) (by rw [set_other (by decide)] at hn; exact hn), fun h hn => H23.out (up_keep h (by decide)) (by rw [set_other (by decide)] at hn; exact hn), fun h => H24.out (up_keep h (by decide)), fun h => H28.out (up_keep h (by decide)), fun h => H29.out (up_keep h (by decide)), fun _ => rfl, fun h => H31.out (up_keep h (by decide)), fun h => H32.out (up_keep h (by decide)), fun h => by rw [set_other (by decide)]; exact H33.out (up_keep h (by decide)), fun h => H35.out (up_keep h (by decide))⟩
    · obtain ⟨x11, x15, x16, x17, x21, x22, x23, x27, x28, x29, x33, x34, x38, x39, x9, x40, x41, x7, x8, rfl, ⟨hB, hR⟩, ⟨o1, o2⟩, h1, h5, h6, h7, h11, h12, h13, h17, h18, h19, h23, h24, h28, h29, h30, h31, h32, h33, h35⟩ := hI
      have d30 := h30 (hdep { on := 30, ground := .data } (by simp) rfl)
      subst d30
      have H1 : Hid _ := h1
      have H5 : Hid _ := h5
      have H6 : Hid _ := h6
      have H7 : Hid _ := h7
      have H11 : Hid _ := h11
      have H12 : Hid _ := h12
      have H13 : Hid _ := h13
      have H17 : Hid _ := h17
      have H18 : Hid _ := h18
      have H19 : Hid _ := h19
      have H23 : Hid _ := h23
      have H24 : Hid _ := h24
      have H28 : Hid _ := h28
      have H29 : Hid _ := h29
      have H30 : Hid _ := h30
      have H31 : Hid _ := h31
      have H32 : Hid _ := h32
      have H33 : Hid _ := h33
      have H35 : Hid _ := h35
      have HO1 : Hid _ := o1
      have HO2 : Hid _ := o2
      have HNI : Hid _ := hni
      have HSZ : Hid _ := hsz
      have HRR : Hid _ := hR
      have HBB : Hid _ := hB
      clear h1 h5 h6 h7 h11 h12 h13 h17 h18 h19 h23 h24 h28 h29 h30 h31 h32 h33 h35 hdep o1 o2 hni hsz hR hB 
      go_simp
      refine hK.out _ _ ⟨x11, x15, x16, x17, x21, x22, x23, x27, x28, x29, x33, x34, x38, x39, .tuple #[.agg #[.string (strN F), .string (strN gd), .string (strN tt), .string (strN ll), .string (strN bb), .int .i64 (am : Int)], .int .i64 0], .agg #[.string (strN F), .string (strN gd), .string (strN tt), .string (strN ll), .string (strN bb), .int .i64 (am : Int)], x41, x7, x8, rfl, ⟨HBB.out, HRR.out⟩, ⟨fun h => up_set (HO1.out (up_keep h (by decide))), fun h => ⟨up_set (HO2.out (up_keep h (by decide))).1, up_set (HO2.out (up_keep h (by decide))).2.1, up_set (HO2.out (up_keep h (by decide))).2.2.1, up_set (HO2.out (up_keep h (by decide))).2.2.2.1, up_set (HO2.out (up_keep h (by decide))).2.2.2.2.1, up_set (HO2.out (up_keep h (by decide))).2.2.2.2.2.1, up_set (HO2.out (up_keep h (by decide))).2.2.2.2.2.2⟩⟩, fun h => H1.out (up_keep h (by decide)), fun h hn => H5.out (up_keep h (by decide)) (by rw [set_other (by decide)] at hn; exact hn), fun h => H6.out (up_keep h (by decide)), fun h hn => H7.out (up_keep h (by decide)) (by rw [set_other (by decide)] at hn; exact hn), fun h hn => H11.out (up_keep h (by decide)) (by rw [set_other (by decide)] at hn; exact hn), fun h => H12.out (up_keep h (by decide)), fun h hn => H13.out (up_keep h (by decide)) (by rw [set_other (by decide)] at hn; exact hn), fun h hn => H17.out (up_keep h (by decide)) (by rw [set_other (by decide)] at hn; exact hn), fun h => H18.out (up_keep h (by decide)), fun h hn => H19.out (up_keep h (by decide)) (by rw [set_other (by decide)] at hn; exact hn), fun h hn => H23.out (up_keep h (by decide)) (by rw [set_other (by decide)] at hn; exact hn), fun h => H24.out (up_keep h (by decide)), fun h => H28.out (up_keep h (by decide)), fun h => H29.out (up_keep h (by decide)), fun h => H30.out (up_keep h (by decide)), fun _ => rfl, fun h => H32.out (up_keep h (by decide)), fun h => by rw [set_other (by decide)]; exact H33.out (up_keep h (by decide)), fun h => H35.out (up_keep h (by decide))⟩
    · obtain ⟨x11, x15, x16, x17, x21, x22, x23, x27, x28, x29, x33, x34, x38, x39, x9, x40, x41, x7, x8, rfl, ⟨hB, hR⟩, ⟨o1, o2⟩, h1, h5, h6, h7, h11, h12, h13, h17, h18, h19, h23, h24, h28, h29, h30, h31, h32, h33, h35⟩ := hI
      have d30 := h30 (hdep { on := 30, ground := .data } (by simp) rfl)
      subst d30
      have H1 : Hid _ := h1
      have H5 : Hid _ := h5
      have H6 : Hid _ := h6
      have H7 : Hid _ := h7
      have H11 : Hid _ := h11
      have H12 : Hid _ := h12
      have H13 : Hid _ := h13
      have H17 : Hid _ := h17
      have H18 : Hid _ := h18
      have H19 : Hid _ := h19
      have H23 : Hid _ := h23
      have H24 : Hid _ := h24
      have H28 : Hid _ := h28
      have H29 : Hid _ := h29
      have H30 : Hid _ := h30
      have H31 : Hid _ := h31
      have H32 : Hid _ := h32
      have H33 : Hid _ := h33
      have H35 : Hid _ := h35
      have HO1 : Hid _ := o1
      have HO2 : Hid _ := o2
      have HNI : Hid _ := hni
      have HSZ : Hid _ := hsz
      have HRR : Hid _ := hR
      have HBB : Hid _ := hB
      clear h1 h5 h6 h7 h11 h12 h13 h17 h18 h19 h23 h24 h28 h29 h30 h31 h32 h33 h35 hdep o1 o2 hni hsz hR hB 
      go_simp
      refine hK.out _ _ ⟨x11, x15, x16, x17, x21, x22, x23, x27, x28, x29, x33, x34, x38, x39, .tuple #[.agg #[.string (strN F), .string (strN gd), .string (strN tt), .string (strN ll), .string (strN bb), .int .i64 (am : Int)], .int .i64 0], x40, .int .i64 0, x7, x8, rfl, ⟨HBB.out, HRR.out⟩, ⟨fun h => up_set (HO1.out (up_keep h (by decide))), fun h => ⟨up_set (HO2.out (up_keep h (by decide))).1, up_set (HO2.out (up_keep h (by decide))).2.1, up_set (HO2.out (up_keep h (by decide))).2.2.1, up_set (HO2.out (up_keep h (by decide))).2.2.2.1, up_set (HO2.out (up_keep h (by decide))).2.2.2.2.1, up_set (HO2.out (up_keep h (by decide))).2.2.2.2.2.1, up_set (HO2.out (up_keep h (by decide))).2.2.2.2.2.2⟩⟩, fun h => H1.out (up_keep h (by decide)), fun h hn => H5.out (up_keep h (by decide)) (by rw [set_other (by decide)] at hn; exact hn), fun h => H6.out (up_keep h (by decide)), fun h hn => H7.out (up_keep h (by decide)) (by rw [set_other (by decide)] at hn; exact hn), fun h hn => H11.out (up_keep h (by decide)) (by rw [set_other (by decide)] at hn; exact hn), fun h => H12.out (up_keep h (by decide)), fun h hn => H13.out (up_keep h (by decide)) (by rw [set_other (by decide)] at hn; exact hn), fun h hn => H17.out (up_keep h (by decide)) (by rw [set_other (by decide)] at hn; exact hn), fun h => H18.out (up_keep h (by decide)), fun h hn => H19.out (up_keep h (by decide)) (by rw [set_other (by decide)] at hn; exact hn), fun h hn => H23.out (up_keep h (by decide)) (by rw [set_other (by decide)] at hn; exact hn), fun h => H24.out (up_keep h (by decide)), fun h => H28.out (up_keep h (by decide)), fun h => H29.out (up_keep h (by decide)), fun h => H30.out (up_keep h (by decide)), fun h => H31.out (up_keep h (by decide)), fun _ => rfl, fun h => by rw [set_other (by decide)]; exact H33.out (up_keep h (by decide)), fun h => H35.out (up_keep h (by decide))⟩
    · obtain ⟨x11, x15, x16, x17, x21, x22, x23, x27, x28, x29, x33, x34, x38, x39, x9, x40, x41, x7, x8, rfl, ⟨hB, hR⟩, ⟨o1, o2⟩, h1, h5, h6, h7, h11, h12, h13, h17, h18, h19, h23, h24, h28, h29, h30, h31, h32, h33, h35⟩ := hI
      have H1 : Hid _ := h1
      have H5 : Hid _ := h5
      have H6 : Hid _ := h6
      have H7 : Hid _ := h7
      have H11 : Hid _ := h11
      have H12 : Hid _ := h12
      have H13 : Hid _ := h13
      have H17 : Hid _ := h17
      have H18 : Hid _ := h18
      have H19 : Hid _ := h19
      have H23 : Hid _ := h23
      have H24 : Hid _ := h24
      have H28 : Hid _ := h28
      have H29 : Hid _ := h29
      have H30 : Hid _ := h30
      have H31 : Hid _ := h31
      have H32 : Hid _ := h32
      have H33 : Hid _ := h33
      have H35 : Hid _ := h35
      have HO1 : Hid _ := o1
      have HO2 : Hid _ := o2
      have HNI : Hid _ := hni
      have HSZ : Hid _ := hsz
      have HRR : Hid _ := hR
      have HBB : Hid _ := hB
      clear h1 h5 h6 h7 h11 h12 h13 h17 h18 h19 h23 h24 h28 h29 h30 h31 h32 h33 h35 hdep o1 o2 hni hsz hR hB 
      go_simp
      refine hK.out _ _ ⟨x11, x15, x16, x17, x21, x22, x23, x27, x28, x29, x33, x34, x38, x39, x9, x40, x41, .pointer (some ⟨_, 0, none⟩), x8, rfl, ⟨HBB.out.alloc HBB.out.size _, HRR.out.alloc _⟩, ⟨fun h => up_set (HO1.out (up_keep h (by decide))), fun h => ⟨up_set (HO2.out (up_keep h (by decide))).1, up_set (HO2.out (up_keep h (by decide))).2.1, up_set (HO2.out (up_keep h (by decide))).2.2.1, up_set (HO2.out (up_keep h (by decide))).2.2.2.1, up_set (HO2.out (up_keep h (by decide))).2.2.2.2.1, up_set (HO2.out (up_keep h (by decide))).2.2.2.2.2.1, up_set (HO2.out (up_keep h (by decide))).2.2.2.2.2.2⟩⟩, fun h => H1.out (up_keep h (by decide)), fun h hn => (H5.out (up_keep h (by decide)) (by rw [set_other (by decide)] at hn; exact hn)).later ((Below.refl _ _).alloc (Nat.le_refl _) _), fun h => H6.out (up_keep h (by decide)), fun h hn => (H7.out (up_keep h (by decide)) (by rw [set_other (by decide)] at hn; exact hn)).later ((Below.refl _ _).alloc (Nat.le_refl _) _), fun h hn => (H11.out (up_keep h (by decide)) (by rw [set_other (by decide)] at hn; exact hn)).later ((Below.refl _ _).alloc (Nat.le_refl _) _), fun h => H12.out (up_keep h (by decide)), fun h hn => (H13.out (up_keep h (by decide)) (by rw [set_other (by decide)] at hn; exact hn)).later ((Below.refl _ _).alloc (Nat.le_refl _) _), fun h hn => (H17.out (up_keep h (by decide)) (by rw [set_other (by decide)] at hn; exact hn)).later ((Below.refl _ _).alloc (Nat.le_refl _) _), fun h => H18.out (up_keep h (by decide)), fun h hn => (H19.out (up_keep h (by decide)) (by rw [set_other (by decide)] at hn; exact hn)).later ((Below.refl _ _).alloc (Nat.le_refl _) _), fun h hn => (H23.out (up_keep h (by decide)) (by rw [set_other (by decide)] at hn; exact hn)).later ((Below.refl _ _).alloc (Nat.le_refl _) _), fun h => H24.out (up_keep h (by decide)), fun h => H28.out (up_keep h (by decide)), fun h => H29.out (up_keep h (by decide)), fun h => H30.out (up_keep h (by decide)), fun h => H31.out (up_keep h (by decide)), fun h => H32.out (up_keep h (by decide)), fun _ => ⟨_, rfl, Nat.lt_of_lt_of_le (EntAt.lt HRR.out) (Nat.le_refl _), by rw [set_other (by decide)]; first | (rw [if_neg (by intro h; have := HO1.out h; rw [HNI.out] at this; cases this)]; exact EntAt.new _ EntMath.zero)⟩, fun h => H35.out (up_keep h (by decide))⟩
    · obtain ⟨x11, x15, x16, x17, x21, x22, x23, x27, x28, x29, x33, x34, x38, x39, x9, x40, x41, x7, x8, rfl, ⟨hB, hR⟩, ⟨o1, o2⟩, h1, h5, h6, h7, h11, h12, h13, h17, h18, h19, h23, h24, h28, h29, h30, h31, h32, h33, h35⟩ := hI
      have d33 := h33 (hdep { on := 33, ground := .data } (by simp) rfl)
      obtain ⟨q7, hx7, hq7, hA7⟩ := d33
      subst hx7
      have d31 := h31 (hdep { on := 31, ground := .data } (by simp) rfl)
      subst d31
      have qq33 := hdep { on := 33, ground := .data } (by simp) rfl
      have qq6 := hdep { on := 6, ground := .phase } (by simp) rfl
      have qq11 := hdep { on := 11, ground := .phase } (by simp) rfl
      have qq12 := hdep { on := 12, ground := .phase } (by simp) rfl
      have qq17 := hdep { on := 17, ground := .phase } (by simp) rfl
      have qq18 := hdep { on := 18, ground := .phase } (by simp) rfl
      have qq23 := hdep { on := 23, ground := .phase } (by simp) rfl
      have qq24 := hdep { on := 24, ground := .phase } (by simp) rfl
      have H1 : Hid _ := h1
      have H5 : Hid _ := h5
      have H6 : Hid _ := h6
      have H7 : Hid _ := h7
      have H11 : Hid _ := h11
      have H12 : Hid _ := h12
      have H13 : Hid _ := h13
      have H17 : Hid _ := h17
      have H18 : Hid _ := h18
      have H19 : Hid _ := h19
      have H23 : Hid _ := h23
      have H24 : Hid _ := h24
      have H28 : Hid _ := h28
      have H29 : Hid _ := h29
      have H30 : Hid _ := h30
      have H31 : Hid _ := h31
      have H32 : Hid _ := h32
      have H33 : Hid _ := h33
      have H35 : Hid _ := h35
      have HO1 : Hid _ := o1
      have HO2 : Hid _ := o2
      have HNI : Hid _ := hni
      have HSZ : Hid _ := hsz
      have HRR : Hid _ := hR
      have HBB : Hid _ := hB
      have Qqq33 : Hid _ := qq33
      have Qqq6 : Hid _ := qq6
      have Qqq11 : Hid _ := qq11
      have Qqq12 : Hid _ := qq12
      have Qqq17 : Hid _ := qq17
      have Qqq18 : Hid _ := qq18
      have Qqq23 : Hid _ := qq23
      have Qqq24 : Hid _ := qq24
      clear h1 h5 h6 h7 h11 h12 h13 h17 h18 h19 h23 h24 h28 h29 h30 h31 h32 h33 h35 hdep o1 o2 hni hsz hR hB qq33 qq6 qq11 qq12 qq17 qq18 qq23 qq24
      rw [if_pos (by rfl)]
      refine wp_store_ent (.tmp 7) (.tmp 40) rfl q7 _ (⟨F, gd, tt, ll, bb, (am : Int)⟩ : E) rfl rfl hA7 ?_
      refine hK.out _ _ ⟨x11, x15, x16, x17, x21, x22, x23, x27, x28, x29, x33, x34, x38, x39, x9, .agg #[.string (strN F), .string (strN gd), .string (strN tt), .string (strN ll), .string (strN bb), .int .i64 (am : Int)], x41, .pointer (some ⟨q7, 0, none⟩), x8, rfl, ⟨below_setRow HBB.out (by have := HGR.out; omega) _, EntAt.row_other HRR.out _ (by omega)⟩, ⟨fun _ => up_set Qqq33.out, fun _ => ⟨up_set Qqq6.out, up_set Qqq11.out, up_set Qqq12.out, up_set Qqq17.out, up_set Qqq18.out, up_set Qqq23.out, up_set Qqq24.out⟩⟩, fun h => H1.out (up_keep h (by decide)), fun h hn => absurd hn (by rw [set_self (by rw [HSZ.out]; decide)]; simp), fun h => H6.out (up_keep h (by decide)), fun h hn => absurd hn (by rw [set_self (by rw [HSZ.out]; decide)]; simp), fun h hn => absurd hn (by rw [set_self (by rw [HSZ.out]; decide)]; simp), fun h => H12.out (up_keep h (by decide)), fun h hn => absurd hn (by rw [set_self (by rw [HSZ.out]; decide)]; simp), fun h hn => absurd hn (by rw [set_self (by rw [HSZ.out]; decide)]; simp), fun h => H18.out (up_keep h (by decide)), fun h hn => absurd hn (by rw [set_self (by rw [HSZ.out]; decide)]; simp), fun h hn => absurd hn (by rw [set_self (by rw [HSZ.out]; decide)]; simp), fun h => H24.out (up_keep h (by decide)), fun h => H28.out (up_keep h (by decide)), fun h => H29.out (up_keep h (by decide)), fun h => H30.out (up_keep h (by decide)), fun h => H31.out (up_keep h (by decide)), fun h => H32.out (up_keep h (by decide)), fun _ => ⟨q7, rfl, hq7, by rw [set_self (by rw [HSZ.out]; decide), if_pos rfl]; exact EntAt.row hA7⟩, fun h => H35.out (up_keep h (by decide))⟩
    · obtain ⟨x11, x15, x16, x17, x21, x22, x23, x27, x28, x29, x33, x34, x38, x39, x9, x40, x41, x7, x8, rfl, ⟨hB, hR⟩, ⟨o1, o2⟩, h1, h5, h6, h7, h11, h12, h13, h17, h18, h19, h23, h24, h28, h29, h30, h31, h32, h33, h35⟩ := hI
      have d32 := h32 (hdep { on := 32, ground := .data } (by simp) rfl)
      subst d32
      have H1 : Hid _ := h1
      have H5 : Hid _ := h5
      have H6 : Hid _ := h6
      have H7 : Hid _ := h7
      have H11 : Hid _ := h11
      have H12 : Hid _ := h12
      have H13 : Hid _ := h13
      have H17 : Hid _ := h17
      have H18 : Hid _ := h18
      have H19 : Hid _ := h19
      have H23 : Hid _ := h23
      have H24 : Hid _ := h24
      have H28 : Hid _ := h28
      have H29 : Hid _ := h29
      have H30 : Hid _ := h30
      have H31 : Hid _ := h31
      have H32 : Hid _ := h32
      have H33 : Hid _ := h33
      have H35 : Hid _ := h35
      have HO1 : Hid _ := o1
      have HO2 : Hid _ := o2
      have HNI : Hid _ := hni
      have HSZ : Hid _ := hsz
      have HRR : Hid _ := hR
      have HBB : Hid _ := hB
      clear h1 h5 h6 h7 h11 h12 h13 h17 h18 h19 h23 h24 h28 h29 h30 h31 h32 h33 h35 hdep o1 o2 hni hsz hR hB 
      go_simp
      refine hK.out _ _ ⟨x11, x15, x16, x17, x21, x22, x23, x27, x28, x29, x33, x34, x38, x39, x9, x40, .int .i64 0, x7, .int .i64 0, rfl, ⟨HBB.out, HRR.out⟩, ⟨fun h => up_set (HO1.out (up_keep h (by decide))), fun h => ⟨up_set (HO2.out (up_keep h (by decide))).1, up_set (HO2.out (up_keep h (by decide))).2.1, up_set (HO2.out (up_keep h (by decide))).2.2.1, up_set (HO2.out (up_keep h (by decide))).2.2.2.1, up_set (HO2.out (up_keep h (by decide))).2.2.2.2.1, up_set (HO2.out (up_keep h (by decide))).2.2.2.2.2.1, up_set (HO2.out (up_keep h (by decide))).2.2.2.2.2.2⟩⟩, fun h => H1.out (up_keep h (by decide)), fun h hn => H5.out (up_keep h (by decide)) (by rw [set_other (by decide)] at hn; exact hn), fun h => H6.out (up_keep h (by decide)), fun h hn => H7.out (up_keep h (by decide)) (by rw [set_other (by decide)] at hn; exact hn), fun h hn => H11.out (up_keep h (by decide)) (by rw [set_other (by decide)] at hn; exact hn), fun h => H12.out (up_keep h (by decide)), fun h hn => H13.out (up_keep h (by decide)) (by rw [set_other (by decide)] at hn; exact hn), fun h hn => H17.out (up_keep h (by decide)) (by rw [set_other (by decide)] at hn; exact hn), fun h => H18.out (up_keep h (by decide)), fun h hn => H19.out (up_keep h (by decide)) (by rw [set_other (by decide)] at hn; exact hn), fun h hn => H23.out (up_keep h (by decide)) (by rw [set_other (by decide)] at hn; exact hn), fun h => H24.out (up_keep h (by decide)), fun h => H28.out (up_keep h (by decide)), fun h => H29.out (up_keep h (by decide)), fun h => H30.out (up_keep h (by decide)), fun h => H31.out (up_keep h (by decide)), fun h => H32.out (up_keep h (by decide)), fun h => by rw [set_other (by decide)]; exact H33.out (up_keep h (by decide)), fun _ => rfl⟩
  · simp only [Act.put, List.setIfInBounds_toArray, List.set_cons_zero, List.set_cons_succ]
    rintro l a w3 ⟨x11, x15, x16, x17, x21, x22, x23, x27, x28, x29, x33, x34, x38, x39, x9, x40, x41, x7, x8, rfl, ⟨hB, hR⟩, _, h1, h5, h6, h7, h11, h12, h13, h17, h18, h19, h23, h24, h28, h29, h30, h31, h32, h33, h35⟩ hall
    have e7 := h33 (hall 33 (by decide))
    rw [hall 34 (by decide), if_pos rfl] at e7
    obtain ⟨q7, hx7, hq7, hA7⟩ := e7
    subst hx7
    clear h1 h5 h6 h7 h11 h12 h13 h17 h18 h19 h23 h24 h28 h29 h30 h31 h32 h33 h35 hall h0
    obtain ⟨c0, c1, c2, c3, c4, c5⟩ := hA7.cells
    have hlt := hA7.lt
    have HA7 : Hid _ := hA7
    have HR : Hid _ := hR
    have HB : Hid _ := hB
    clear hA7 hR hB
    go_wp2_with (refine wpList_store_ent rfl (.tmp 6) (.tmp 42) rfl GR EntMath.zero (⟨F, gd, tt, ll, bb, (am : Int)⟩ : E) rfl rfl HR.out ?_)
    exact ret_ent1 GR (⟨F, gd, tt, ll, bb, (am : Int)⟩ : E) rfl rfl (EntAt.row HR.out) rfl ⟨rfl, below_setRow HB.out (by have := HGR.out; omega) _⟩
end Go.Proofs.YteockpllnhjooaaGreatDoor

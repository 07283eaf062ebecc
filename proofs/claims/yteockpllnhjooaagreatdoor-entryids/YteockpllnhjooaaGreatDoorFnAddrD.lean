/-
  Walks of addr.hexByte, appendHex, appendMeant.
-/
import Derived.Test.YteockpllnhjooaaGreatDoorFnAddrC
import Derived.Deep.RegionHeld
namespace Go.Proofs.YteockpllnhjooaaGreatDoor
open Go.RowKit NumMath
open AddrMath (pre post is No Ends cut3 colon splitD lower small labC isLab isHost isPort digit value hexV hexAt hexD escape meant plain)
set_option maxRecDepth 100000
set_option linter.unusedVariables false
set_option linter.unusedSimpArgs false

/-- bytes as values -/
def bv (l : List Nat) : List Value := l.map fun n : Nat => Value.int .u8 (n : Int)
theorem bv_len (l : List Nat) : (bv l).length = l.length := by simp [bv]
theorem bv_app (a b : List Nat) : bv (a ++ b) = bv a ++ bv b := by simp [bv]
theorem bv_ints (l : List Nat) : bv l = (ints8 l).map (Value.int .u8) := by simp [bv, ints8]
theorem bv_one (l : List Nat) : ∀ u ∈ bv l, u.oneCell' = true := by
  intro u hu
  obtain ⟨n, _, rfl⟩ := List.mem_map.1 hu
  rfl
theorem or4 (a b : Nat) (ha : a < 16) (hb : b < 16) : bits .or .u8 ((a : Int) * 16) (b : Int) = ((16 * a + b : Nat) : Int) := by
  have := bits_join .u8 8 (by decide) wraps_u8 4 ((a : Int) * 16) (b : Int) (by omega) (by rw [show (2 : Int) ^ 4 = 16 by decide]; omega) (by rw [show (2 : Int) ^ 8 = 256 by decide]; omega) (by omega) (by rw [show (2 : Int) ^ 4 = 16 by decide]; omega) (by rw [show (2 : Int) ^ 8 = 256 by decide]; omega)
  rw [this]; omega
theorem and15b (c : Nat) (hc : c < 256) : bits .and .u8 (c : Int) 15 = ((c % 16 : Nat) : Int) := by
  have := bits_mask .u8 8 (by decide) wraps_u8 4 (by decide) (c : Int) (by omega) (by omega)
  rw [show ((2 : Int) ^ 4 - 1) = 15 by decide] at this
  rw [this]; simp
theorem hexAt_none (l : List Nat) (h : l.length < 2) : hexAt l = none := by
  match l, h with
  | [], _ => rfl
  | [_], _ => rfl
  | _ :: _ :: _, h => simp at h; omega

set_option maxRecDepth 100000 in
theorem hexByte_any (l : List Nat) (w : World) (hb : ∀ c ∈ l, c < 256) (hm : l.length ≤ 1000000000) :
    Calls Tryz.prog 76 #[.string (strN l)] w fun e w' => (∃ v : Nat, e = .returned (.tuple #[.int .u8 (v : Int), .bool (hexAt l).isSome]) ∧ ∀ x, hexAt l = some x → v = x) ∧ w' = w := by
  have hsz := strN_size l
  by_cases h2 : l.length < 2
  · have HN : Hid _ := hexAt_none l h2
    go_enter Tryz.func76, Tryz.ntmps76
    go_wp2
    go_ret2
    rw [HN.out]
    exact ⟨⟨0, rfl, fun x h => by cases h⟩, rfl⟩
  · match l, h2 with
    | [], h2 => simp at h2
    | [_], h2 => simp at h2
    | a :: b :: t, h2 =>
      have ha := hb a (by simp)
      have hb' := hb b (by simp)
      have hix0 : ∀ w, (Instr.index 9 (.string (strN (a :: b :: t))) (.int .i64 0)).run Tryz.prog w = .ok (.int .u8 (a : Int)) w := fun w => index_strN (a :: b :: t) hb 0 (by simp) .i64 w
      have hix1 : ∀ w, (Instr.index 9 (.string (strN (a :: b :: t))) (.int .i64 1)).run Tryz.prog w = .ok (.int .u8 (b : Int)) w := fun w => index_strN (a :: b :: t) hb 1 (by simp) .i64 w
      have HH : Hid (∀ w, _) := fun w => hexDigit_any a w ha
      have HL : Hid (∀ w, _) := fun w => hexDigit_any b w hb'
      have HA : Hid (hexAt (a :: b :: t) = match hexV a, hexV b with | some h, some l => some (16 * h + l) | _, _ => none) := rfl
      have hla : (hexV a).getD 0 < 16 := by
        cases e : hexV a with
        | none => decide
        | some x => exact AddrMath.hexV_lt e
      have hlb : (hexV b).getD 0 < 16 := by
        cases e : hexV b with
        | none => decide
        | some x => exact AddrMath.hexV_lt e
      have hor := or4 _ _ hla hlb
      have HR : Hid (∀ x, hexAt (a :: b :: t) = some x → 16 * (hexV a).getD 0 + (hexV b).getD 0 = x) := by
        intro x hx
        rw [HA.out] at hx
        cases e1 : hexV a with
        | none => rw [e1] at hx; cases hx
        | some y => cases e2 : hexV b with
          | none => rw [e1, e2] at hx; cases hx
          | some z => rw [e1, e2] at hx; exact Option.some.inj hx
      have HS : Hid ((hexAt (a :: b :: t)).isSome = ((hexV a).isSome && (hexV b).isSome)) := by
        show _ = _
        rw [HA.out]
        cases hexV a with
        | none => rfl
        | some y => cases hexV b with
          | none => rfl
          | some z => rfl
      generalize hexAt (a :: b :: t) = R at *
      generalize (hexV a).getD 0 = va at *
      generalize (hexV b).getD 0 = vb at *
      obtain ⟨o, ho, hoe⟩ : ∃ o : Nat, bits .or .u8 ((va : Int) * 16) (vb : Int) = (o : Int) ∧ o = 16 * va + vb := ⟨_, hor, rfl⟩
      have HOE : Hid _ := hoe
      clear hor hoe HA
      generalize strN (a :: b :: t) = s at *
      simp only [List.length_cons] at hsz hm h2
      cases hs1 : (hexV a).isSome with
      | true =>
        rw [hs1] at HH HS
        go_enter Tryz.func76, Tryz.ntmps76
        go_wp2_with fail
        refine Calls.mono (HH.out _) ?_
        rintro e w1 ⟨rfl, h1w⟩
        subst w1
        go_wp2_with fail
        refine Calls.mono (HL.out _) ?_
        rintro e w1 ⟨rfl, h1w⟩
        subst w1
        go_wp2
        go_ret2
        rw [HS.out]
        exact ⟨⟨o, rfl, fun x h => by rw [HOE.out]; exact HR.out x h⟩, rfl⟩
      | false =>
        rw [hs1] at HH HS
        go_enter Tryz.func76, Tryz.ntmps76
        go_wp2_with fail
        refine Calls.mono (HH.out _) ?_
        rintro e w1 ⟨rfl, h1w⟩
        subst w1
        go_wp2_with fail
        refine Calls.mono (HL.out _) ?_
        rintro e w1 ⟨rfl, h1w⟩
        subst w1
        go_wp2
        go_ret2
        rw [HS.out]
        exact ⟨⟨o, rfl, fun x h => by rw [HOE.out]; exact HR.out x h⟩, rfl⟩

set_option maxRecDepth 100000 in
set_option maxHeartbeats 4000000 in
theorem appendHex_any (base : Nat) (v : Value) (l : List Nat) (b : Nat) (w : World) (hown : Own w base 5 v (bv l)) (hb : b < 256) (hl : l.length + 3 ≤ 100000000) (hbase : base ≤ w.heap.size) :
    Calls Tryz.prog 81 #[v, .int .u8 (b : Int)] w fun e w' => ∃ v', e = .returned v' ∧ Own w' base 5 v' (bv (l ++ escape b)) ∧ Below base w w' ∧ ∀ k, k < w.heap.size → some k ≠ v.ownBlock → w'.heap[k]? = w.heap[k]? := by
  obtain ⟨i0, hi, hz0, hz1, hz2⟩ := info_parts Tryz.info5
  have HE : Hid (escape b = [37, hexD (b / 16), hexD (b % 16)]) := rfl
  have hd : ∀ k : Fin 16, ([48, 49, 50, 51, 52, 53, 54, 55, 56, 57, 65, 66, 67, 68, 69, 70] : List Nat)[k.val]?.getD 0 = hexD k.val := by decide
  have hix : ∀ (k : Nat), k < 16 → ∀ w, (Instr.index 9 (.string ⟨#[48, 49, 50, 51, 52, 53, 54, 55, 56, 57, 65, 66, 67, 68, 69, 70]⟩) (.int .u8 (k : Int))).run Tryz.prog w = .ok (.int .u8 ((hexD k : Nat) : Int)) w := by
    intro k hk w
    have := index_strN [48, 49, 50, 51, 52, 53, 54, 55, 56, 57, 65, 66, 67, 68, 69, 70] (by decide) k (by simpa using hk) .u8 w
    rw [hd ⟨k, hk⟩] at this
    exact this
  obtain ⟨p, hp, hpe⟩ : ∃ p : Nat, (b : Int) / 16 = (p : Int) ∧ p = b / 16 := ⟨b / 16, by omega, rfl⟩
  obtain ⟨q, hq, hqe⟩ : ∃ q : Nat, bits .and .u8 (b : Int) 15 = (q : Int) ∧ q = b % 16 := ⟨b % 16, and15b b hb, rfl⟩
  have hixp := hix p (by omega)
  have hixq := hix q (by omega)
  rw [← hpe, ← hqe] at HE
  have HO : Hid _ := hown
  clear hix hd hpe hqe hown
  generalize hexD p = x at *
  generalize hexD q = y at *
  go_enter Tryz.func81, Tryz.ntmps81
  go_wp2
  refine wp_region_held_drew (S := fun w' => Below base w w') rfl ((Below.refl _ _).drew) (fun hS => ?_)
  refine wpAnyH_take (i := 0) (v := ?_) rfl (by kernel_rfl) (by kernel_rfl) (by kernel_rfl) (fun _ _ _ h => h) (Or.inl ⟨by rfl, ?_⟩) hS ?_
  rotate_left 1
  · intro w hSw; (try dsimp only at hSw); go_simp <;> with_reducible rfl
  simp only [List.getElem_toArray, List.getElem_cons_zero, List.getElem_cons_succ, Act.put, List.setIfInBounds_toArray, List.set_cons_zero, List.set_cons_succ]
  refine wpAnyH_take (i := 1) (v := ?_) rfl (by kernel_rfl) (by kernel_rfl) (by kernel_rfl) (fun _ _ _ h => h) (Or.inl ⟨by rfl, ?_⟩) hS ?_
  rotate_left 1
  · intro w hSw; (try dsimp only at hSw); go_simp <;> with_reducible rfl
  simp only [List.getElem_toArray, List.getElem_cons_zero, List.getElem_cons_succ, Act.put, List.setIfInBounds_toArray, List.set_cons_zero, List.set_cons_succ]
  refine wpAnyH_take (i := 2) (v := ?_) rfl (by kernel_rfl) (by kernel_rfl) (by kernel_rfl) (fun _ _ _ h => h) (Or.inl ⟨by rfl, ?_⟩) hS ?_
  rotate_left 1
  · intro w hSw; (try dsimp only at hSw); go_simp <;> with_reducible rfl
  simp only [List.getElem_toArray, List.getElem_cons_zero, List.getElem_cons_succ, Act.put, List.setIfInBounds_toArray, List.set_cons_zero, List.set_cons_succ]
  refine wpAnyH_take (i := 3) (v := ?_) rfl (by kernel_rfl) (by kernel_rfl) (by kernel_rfl) (fun _ _ _ h => h) (Or.inl ⟨by rfl, ?_⟩) hS ?_
  rotate_left 1
  · intro w hSw; (try dsimp only at hSw); go_simp <;> with_reducible rfl
  simp only [List.getElem_toArray, List.getElem_cons_zero, List.getElem_cons_succ, Act.put, List.setIfInBounds_toArray, List.set_cons_zero, List.set_cons_succ]
  refine wpAnyH_take (i := 4) (v := ?_) rfl (by kernel_rfl) (by kernel_rfl) (by kernel_rfl) (fun _ _ _ h => h) (Or.inl ⟨by rfl, ?_⟩) hS ?_
  rotate_left 1
  · intro w hSw; (try dsimp only at hSw); go_simp <;> with_reducible rfl
  simp only [List.getElem_toArray, List.getElem_cons_zero, List.getElem_cons_succ, Act.put, List.setIfInBounds_toArray, List.set_cons_zero, List.set_cons_succ]
  refine wpAnyH_take (i := 5) (v := ?_) rfl (by kernel_rfl) (by kernel_rfl) (by kernel_rfl) (fun _ _ _ h => h) (Or.inl ⟨by rfl, ?_⟩) hS ?_
  rotate_left 1
  · intro w hSw; (try dsimp only at hSw); go_simp <;> with_reducible rfl
  simp only [List.getElem_toArray, List.getElem_cons_zero, List.getElem_cons_succ, Act.put, List.setIfInBounds_toArray, List.set_cons_zero, List.set_cons_succ]
  refine wpAnyH_take (i := 6) (v := ?_) rfl (by kernel_rfl) (by kernel_rfl) (by kernel_rfl) (fun _ _ _ h => h) (Or.inl ⟨by rfl, ?_⟩) hS ?_
  rotate_left 1
  · intro w hSw; (try dsimp only at hSw); go_simp <;> with_reducible rfl
  simp only [List.getElem_toArray, List.getElem_cons_zero, List.getElem_cons_succ, Act.put, List.setIfInBounds_toArray, List.set_cons_zero, List.set_cons_succ]
  refine wpAnyH_ready (rs := [7]) (by kernel_rfl) (by simp) ?_
  refine AllReadyH.cons rfl (fun K hK => ?_) AllReadyH.nil
  go_simp
  have hS1 : Below base w (w.alloc (Obj.cells #[Value.int IntKind.u8 37, Value.int IntKind.u8 (x : Int), Value.int IntKind.u8 (y : Int)] 5)).drew := Below.drew ((Below.refl _ _).alloc hbase _)
  refine hK.out _ _ hS1 (fun hS => ?_)
  clear hK K
  have HO1 : Hid (Own (w.alloc (Obj.cells #[Value.int IntKind.u8 37, Value.int IntKind.u8 (x : Int), Value.int IntKind.u8 (y : Int)] 5)).drew base 5 v (bv l)) := Own.alloc HO.out _
  have HC : Hid (∀ j u, (bv [37, x, y])[j]? = some u → ((w.alloc (Obj.cells #[Value.int IntKind.u8 37, Value.int IntKind.u8 (x : Int), Value.int IntKind.u8 (y : Int)] 5)).drew).cell? ((⟨w.heap.size, 0, none⟩ : Addr).add j) = some u) := by
    intro j u hu
    match j, hu with
    | 0, hu => simp [bv] at hu; subst hu; simp [Addr.add]
    | 1, hu => simp [bv] at hu; subst hu; simp [Addr.add]
    | 2, hu => simp [bv] at hu; subst hu; simp [Addr.add]
  refine wpAnyH_ready (rs := [8]) (by kernel_rfl) (by simp) ?_
  refine AllReadyH.cons rfl (fun K hK => ?_) AllReadyH.nil
  refine wp_append_own _ (.tmp 5) (.tmp 12) 48 rfl base 5 i0 (.int .u8 0) 1 1 Tryz.underlying48 hi hz0 hz1 hz2 rfl (by decide) v l.length (bv l) rfl (by have := HO1.out; unfold Own at this; rw [bv_len] at this; exact this) ⟨w.heap.size, 0, none⟩ 3 3 (bv [37, x, y]) rfl rfl HC.out (bv_one _) (by unfold maxLen; omega) (by omega) (by simp; omega) ?_
  intro v' w' hown' hgrow' _
  have HO2 : Hid (Own w' base 5 v' (bv (l ++ escape b))) := by
    show Own _ _ _ _ _
    unfold Own
    rw [HE.out, bv_app, List.length_append, bv_len, bv_len]
    exact hown'
  have HB2 : Hid (Below base w w') := ((((Below.refl base w).alloc hbase _).drew).grown hgrow' (by simp; omega) (fun k hk => (World.ownsRow.lt HO1.out k hk).1))
  have HK2 : Hid (∀ k, k < w.heap.size → some k ≠ v.ownBlock → w'.heap[k]? = w.heap[k]?) := by
    intro k hk hne
    rw [hgrow'.block k (by simp; omega) hne]
    show (w.alloc _).heap[k]? = _
    rw [Lib.alloc_old w _ k hk]
  refine hK.out _ _ HB2.out (fun hS => ?_)
  clear hK K hown' hgrow' HC HO1
  simp only [List.getElem_toArray, List.getElem_cons_zero, List.getElem_cons_succ, Act.put, List.setIfInBounds_toArray, List.set_cons_zero, List.set_cons_succ]
  refine wpAnyH_take (i := 9) (v := ?_) rfl (by kernel_rfl) (by kernel_rfl) (by kernel_rfl) (fun _ _ _ h => h) (Or.inl ⟨by rfl, ?_⟩) hS ?_
  rotate_left 1
  · intro w hSw; (try dsimp only at hSw); go_simp <;> with_reducible rfl
  simp only [List.getElem_toArray, List.getElem_cons_zero, List.getElem_cons_succ, Act.put, List.setIfInBounds_toArray, List.set_cons_zero, List.set_cons_succ]
  refine wpAnyH_done (by kernel_rfl) ?_ _
  go_wp2
  go_ret
  exact ⟨v', rfl, HO2.out, HB2.out, HK2.out⟩

section
variable {ops : Array Oper} {rest : List Oper} {o : Oper} {a : Act} {w : World} {Q : Exit → Act → World → Prop}
/-- append of one byte. -/
theorem wpList_app_u8 (hgd : o.guard = none) (s x : Operand) (ho : o.op = .call { callee := .builtin .append, args := #[s, x], argTypes := #[48, 48] })
    (base : Nat) (v : Value) (vs : List Value) (u : Value) (hs : a.eval s = v) (hown : Own w base 5 v vs) (g : Nat) (hx : a.eval x = .slice (some ⟨g, 0, none⟩) 1 1) (hc : w.cell? ⟨g, 0, none⟩ = some u) (hu : u.oneCell' = true)
    (hl : vs.length + 1 ≤ 17592186044416) (hbase : base ≤ w.heap.size)
    (h : ∀ v' w', Own w' base 5 v' (vs ++ [u]) → w.grownBy w' v.ownBlock → wpList Tryz.prog ops Q rest (a.put o.dst v') w') : wpList Tryz.prog ops Q (o :: rest) a w := by
  obtain ⟨i0, hi, hz0, hz1, hz2⟩ := info_parts Tryz.info5
  refine wpList_append_own_any hgd s x 48 ho base 5 i0 (.int .u8 0) 1 1 Tryz.underlying48 hi hz0 hz1 hz2 rfl (by decide) v vs.length vs hs hown (some ⟨g, 0, none⟩) 1 1 [u] hx rfl (by simp) ?_ ?_ (by unfold maxLen; omega) (by omega) hbase ?_
  · intro ad had j y hy
    obtain rfl := Option.some.inj had
    match j, hy with
    | 0, hy => simp at hy; subst hy; simpa [Addr.add] using hc
  · intro y hy; simp at hy; subst hy; exact hu
  · intro v' w' h1 h2
    exact h v' w' (by unfold Own; rw [List.length_append]; exact h1) h2
end

set_option maxRecDepth 100000 in
set_option maxHeartbeats 4000000 in
theorem appendMeant_any (base : Nat) (v : Value) (l : List Nat) (b : Nat) (w : World) (hown : Own w base 5 v (bv l)) (hb : b < 256) (hl : l.length + 3 ≤ 100000000) (hbase : base ≤ w.heap.size) :
    Calls Tryz.prog 77 #[v, .int .u8 (b : Int)] w fun e w' => ∃ v', e = .returned v' ∧ Own w' base 5 v' (bv (l ++ meant b)) ∧ Below base w w' := by
  have HM : Hid (meant b = if plain b then [b] else escape b) := rfl
  have HO : Hid _ := hown
  have HF : Hid (∀ w, _) := fun w => isFree_any b w (by omega)
  clear hown
  cases hp : plain b with
  | true =>
    rw [hp] at HF HM
    have HM1 : Hid (meant b = [b]) := HM.out
    go_enter Tryz.func77, Tryz.ntmps77
    go_wp2_with (first | (go_at_call 78; refine Calls.mono (HF.out _) ?_; rintro e w2 ⟨rfl, h2w⟩; subst w2) | (at_builtin; refine wpList_app_u8 rfl _ _ rfl base _ (bv l) (.int .u8 (b : Int)) rfl (Own.alloc HO.out _) _ rfl (by simp) rfl (by rw [bv_len]; omega) (by simp; omega) ?_; intro v2 w2 hown2 hgrow2))
    go_ret
    refine ⟨v2, rfl, ?_, ?_⟩
    · rw [HM1.out, bv_app]; exact hown2
    · exact ((Below.refl base w).alloc hbase _).grown hgrow2 (by simp; omega) (fun k hk => (World.ownsRow.lt HO.out k hk).1)
  | false =>
    rw [hp] at HF HM
    have HM1 : Hid (meant b = escape b) := HM.out
    have HA : Hid _ := appendHex_any base v l b w HO.out hb hl hbase
    go_enter Tryz.func77, Tryz.ntmps77
    go_wp2_with (first | (go_at_call 78; refine Calls.mono (HF.out _) ?_; rintro e w2 ⟨rfl, h2w⟩; subst w2) | (go_at_call 81; refine Calls.mono HA.out ?_; rintro e w2 ⟨v2, rfl, hown2, hb2, _⟩))
    go_ret
    exact ⟨v2, rfl, by rw [HM1.out]; exact hown2, hb2⟩
end Go.Proofs.YteockpllnhjooaaGreatDoor

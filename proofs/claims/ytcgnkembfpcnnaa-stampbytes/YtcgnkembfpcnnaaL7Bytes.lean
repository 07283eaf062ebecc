/-
  The walk of StampBytes.
-/
import Derived.Test.YtcgnkembfpcnnaaL7Max
import Derived.Test.YtcgnkembfpcnnaaFnStD
import Derived.Test.YtcgnkembfpcnnaaLibEqual
import Derived.Deep.Cut
namespace Go.Proofs.Ytcgnkembfpcnnaa
open Go.RowKit NumMath
open StMath (St)
set_option maxRecDepth 100000
set_option linter.unusedVariables false
set_option linter.unusedSimpArgs false

theorem Bytes.later {w w' : World} {v : Value} {ys : List Int} (h : Bytes w v ys) (hb : Below w.heap.size w w') : Bytes w' v ys := by
  obtain ⟨a, c, hv, hr, r⟩ := h
  exact ⟨a, c, hv, hr.later hb, r⟩
theorem Bytes.drew {w : World} {v : Value} {ys : List Int} (h : Bytes w v ys) : Bytes w.drew v ys := by
  obtain ⟨a, c, hv, hr, r⟩ := h
  exact ⟨a, c, hv, hr.drew, r⟩
theorem byte_lt (x y : Int) (hx : 0 ≤ x ∧ x ≤ 255) (hy : 0 ≤ y ∧ y ≤ 255) : (UInt8.ofNat x.toNat < UInt8.ofNat y.toNat) ↔ x < y := by
  rw [UInt8.lt_iff_toNat_lt]
  simp
  omega
theorem byte_eq (x y : Int) (hx : 0 ≤ x ∧ x ≤ 255) (hy : 0 ≤ y ∧ y ≤ 255) : (UInt8.ofNat x.toNat = UInt8.ofNat y.toNat) ↔ x = y := by
  rw [← UInt8.toNat_inj]
  simp
  omega
theorem bl_lex : ∀ (xs ys : List Int), (∀ c ∈ xs, 0 ≤ c ∧ c ≤ 255) → (∀ c ∈ ys, 0 ≤ c ∧ c ≤ 255) → Op.bytesLess (xs.map fun n => UInt8.ofNat n.toNat) (ys.map fun n => UInt8.ofNat n.toNat) = StMath.lexI xs ys
  | [], [], _, _ => rfl
  | [], _ :: _, _, _ => rfl
  | _ :: _, [], _, _ => rfl
  | x :: xs, y :: ys, hx, hy => by
    have h1 := hx x (by simp)
    have h2 := hy y (by simp)
    have ih := bl_lex xs ys (fun c hc => hx c (by simp [hc])) (fun c hc => hy c (by simp [hc]))
    simp only [List.map_cons, Op.bytesLess, StMath.lexI]
    by_cases a : x < y
    · rw [if_pos a, show decide (UInt8.ofNat x.toNat < UInt8.ofNat y.toNat) = true from decide_eq_true ((byte_lt x y h1 h2).2 a)]
      rfl
    · rw [if_neg a, show decide (UInt8.ofNat x.toNat < UInt8.ofNat y.toNat) = false from decide_eq_false (fun e => a ((byte_lt x y h1 h2).1 e)), Bool.false_or]
      by_cases b : y < x
      · rw [if_pos b]
        have : (UInt8.ofNat x.toNat == UInt8.ofNat y.toNat) = false := by
          rw [beq_eq_false_iff_ne]
          intro e
          have := (byte_eq x y h1 h2).1 e
          omega
        rw [this, Bool.false_and]
      · rw [if_neg b]
        have : x = y := by omega
        subst this
        rw [beq_self_eq_true, Bool.true_and, ih]
theorem strs_less : ∀ (xs ys : List Int), (∀ c ∈ xs, 0 ≤ c ∧ c ≤ 255) → (∀ c ∈ ys, 0 ≤ c ∧ c ≤ 255) → Op.bytesLess (strOfNums xs).toList (strOfNums ys).toList = StMath.lexI xs ys := by
  intro xs ys hx hy
  rw [Lib.toList_data, Lib.toList_data, strOfNums_data, strOfNums_data]
  exact bl_lex xs ys hx hy

set_option maxRecDepth 100000 in
set_option maxHeartbeats 16000000 in
theorem stampBytes_walk (a b : St) (W : World) (ha : StMath.Fit a) (hb : StMath.Fit b) :
    Calls Try.prog 4 #[stV a, stV b] W fun e W' => e = .returned (.bool true) ∧ Below W.heap.size W W' := by
  have HK : Hid (∀ w, _) := fun w => known_any w
  have HB0 : Hid (Below W.heap.size W ((W.alloc (.cells #[.int .i64 a.p, .int .i64 a.l, .int .i64 a.r] 23)).alloc (.cells #[.int .i64 b.p, .int .i64 b.l, .int .i64 b.r] 23))) := ((Below.refl _ _).alloc (Nat.le_refl _) _).alloc (by simp) _
  have HA0 : Hid (StAt ((W.alloc (.cells #[.int .i64 a.p, .int .i64 a.l, .int .i64 a.r] 23)).alloc (.cells #[.int .i64 b.p, .int .i64 b.l, .int .i64 b.r] 23)) W.heap.size a) := (StAt.new W a rfl).alloc _
  have HX0 : Hid (StAt ((W.alloc (.cells #[.int .i64 a.p, .int .i64 a.l, .int .i64 a.r] 23)).alloc (.cells #[.int .i64 b.p, .int .i64 b.l, .int .i64 b.r] 23)) (W.heap.size + 1) b) := StAt.new _ b (by simp)
  have HBy : Hid (∀ s w, _) := fun s w => stBytes_any s w
  have HRB : Hid (∀ s w, _) := fun s w => refBytes_any s w
  have HRt : Hid (∀ s w, _) := fun s w => stRight_any s w
  have HRR : Hid (∀ s w, _) := fun s w => refRight_any s w
  have HLs : Hid (∀ w, _) := fun w => stLess_any a b w
  have HRd : Hid (∀ v w, Bytes w v (StMath.bytes a) → _) := fun v w (h : Bytes w v (StMath.bytes a)) => h
  unfold stV at *
  clear ha hb
  go_enter Try.func4, Try.ntmps4
  go_wp2_with fail
  generalize (W.alloc (.cells #[.int .i64 a.p, .int .i64 a.l, .int .i64 a.r] 23)).alloc (.cells #[.int .i64 b.p, .int .i64 b.l, .int .i64 b.r] 23) = w0 at *
  refine Calls.mono (HK.out _) ?_
  rintro e w1 ⟨rfl, hb1⟩
  have HB1 : Hid (Below W.heap.size W w1) := HB0.out.trans (hb1.mono HB0.out.size)
  have HA1 : Hid (StAt w1 W.heap.size a) := HA0.out.later hb1 HA0.out.lt
  have HX1 : Hid (StAt w1 (W.heap.size + 1) b) := HX0.out.later hb1 HX0.out.lt
  clear hb1 HB0 HA0 HX0 HK
  go_wp2_with fail
  refine wp_region_held_drew (S := fun w' => w'.cell? ⟨W.heap.size, 0, none⟩ = some (.int .i64 a.p) ∧ w'.cell? ⟨W.heap.size, 1, none⟩ = some (.int .i64 a.l) ∧ w'.cell? ⟨W.heap.size, 2, none⟩ = some (.int .i64 a.r) ∧ w'.cell? ⟨W.heap.size + 1, 0, none⟩ = some (.int .i64 b.p) ∧ w'.cell? ⟨W.heap.size + 1, 1, none⟩ = some (.int .i64 b.l) ∧ w'.cell? ⟨W.heap.size + 1, 2, none⟩ = some (.int .i64 b.r)) (by kernel_rfl) ⟨HA1.out.drew.cells.1, HA1.out.drew.cells.2.1, HA1.out.drew.cells.2.2, HX1.out.drew.cells.1, HX1.out.drew.cells.2.1, HX1.out.drew.cells.2.2⟩ (fun hS => ?_)
  have HB2 : Hid (Below W.heap.size W w1.drew) := HB1.out.drew
  have HA2 : Hid (StAt w1.drew W.heap.size a) := HA1.out.drew
  have HX2 : Hid (StAt w1.drew (W.heap.size + 1) b) := HX1.out.drew
  clear HB1 HA1 HX1
  generalize w1.drew = v2 at *
  refine wpAnyH_take (i := 0) (v := ?_) rfl (by kernel_rfl) (by kernel_rfl) (by kernel_rfl) (fun _ _ _ h => h) (Or.inl ⟨by rfl, ?_⟩) hS ?_
  rotate_left 1
  · intro w hSw; (try dsimp only at hSw); go_simp <;> with_reducible rfl
  simp only [List.getElem_toArray, List.getElem_cons_zero, List.getElem_cons_succ, Act.put, List.setIfInBounds_toArray, List.set_cons_zero, List.set_cons_succ]
  refine wpAnyH_take (i := 2) (v := ?_) rfl (by kernel_rfl) (by kernel_rfl) (by kernel_rfl) (fun _ _ _ h => h) (Or.inl ⟨by rfl, ?_⟩) hS ?_
  rotate_left 1
  · intro w hSw; (try dsimp only at hSw); go_simp <;> with_reducible rfl
  simp only [List.getElem_toArray, List.getElem_cons_zero, List.getElem_cons_succ, Act.put, List.setIfInBounds_toArray, List.set_cons_zero, List.set_cons_succ]
  refine wpAnyH_ready (rs := [1]) (by kernel_rfl) (by simp) ?_
  refine AllReadyH.cons rfl (fun K hK => ?_) AllReadyH.nil
  go_simp
  refine Calls.mono (HBy.out a _) ?_
  rintro e v3 ⟨vp, rfl, hp, hbx⟩
  have HA3 : Hid (StAt v3 W.heap.size a) := HA2.out.later hbx HA2.out.lt
  have HX3 : Hid (StAt v3 (W.heap.size + 1) b) := HX2.out.later hbx HX2.out.lt
  have HB3 : Hid (Below W.heap.size W v3) := HB2.out.trans (hbx.mono HB2.out.size)
  have HP : Hid (Bytes v3 vp (StMath.bytes a)) := hp
  clear hp
  refine hK.out _ _ ⟨HA3.out.cells.1, HA3.out.cells.2.1, HA3.out.cells.2.2, HX3.out.cells.1, HX3.out.cells.2.1, HX3.out.cells.2.2⟩ (fun hS => ?_)
  clear hK K hbx
  refine wpAnyH_ready (rs := [3]) (by kernel_rfl) (by simp) ?_
  refine AllReadyH.cons rfl (fun K hK => ?_) AllReadyH.nil
  go_simp
  refine Calls.mono (HBy.out b _) ?_
  rintro e v4 ⟨vq, rfl, hq, hbx⟩
  have HA4 : Hid (StAt v4 W.heap.size a) := HA3.out.later hbx HA3.out.lt
  have HX4 : Hid (StAt v4 (W.heap.size + 1) b) := HX3.out.later hbx HX3.out.lt
  have HB4 : Hid (Below W.heap.size W v4) := HB3.out.trans (hbx.mono HB3.out.size)
  have HQ : Hid (Bytes v4 vq (StMath.bytes b)) := hq
  have HP : Hid (Bytes v4 vp (StMath.bytes a)) := Bytes.later HP.out hbx
  clear hq
  refine hK.out _ _ ⟨HA4.out.cells.1, HA4.out.cells.2.1, HA4.out.cells.2.2, HX4.out.cells.1, HX4.out.cells.2.1, HX4.out.cells.2.2⟩ (fun hS => ?_)
  clear hK K hbx
  refine wpAnyH_take (i := 4) (v := ?_) rfl (by kernel_rfl) (by kernel_rfl) (by kernel_rfl) (fun _ _ _ h => h) (Or.inl ⟨by rfl, ?_⟩) hS ?_
  rotate_left 1
  · intro w hSw; (try dsimp only at hSw); go_simp <;> with_reducible rfl
  simp only [List.getElem_toArray, List.getElem_cons_zero, List.getElem_cons_succ, Act.put, List.setIfInBounds_toArray, List.set_cons_zero, List.set_cons_succ]
  refine wpAnyH_take (i := 5) (v := ?_) rfl (by kernel_rfl) (by kernel_rfl) (by kernel_rfl) (fun _ _ _ h => h) (Or.inl ⟨by rfl, ?_⟩) hS ?_
  rotate_left 1
  · intro w hSw; (try dsimp only at hSw); go_simp <;> with_reducible rfl
  simp only [List.getElem_toArray, List.getElem_cons_zero, List.getElem_cons_succ, Act.put, List.setIfInBounds_toArray, List.set_cons_zero, List.set_cons_succ]
  refine wpAnyH_done (by kernel_rfl) ?_ _
  go_wp2_with fail
  have HB5 : Hid (Below W.heap.size W v4.drew) := HB4.out.drew
  have HA5 : Hid (StAt v4.drew W.heap.size a) := HA4.out.drew
  have HX5 : Hid (StAt v4.drew (W.heap.size + 1) b) := HX4.out.drew
  have HP5 : Hid (Bytes v4.drew vp (StMath.bytes a)) := Bytes.drew HP.out
  have HQ5 : Hid (Bytes v4.drew vq (StMath.bytes b)) := Bytes.drew HQ.out
  refine wp_region_held_drew (S := fun w' => w'.cell? ⟨W.heap.size, 0, none⟩ = some (.int .i64 a.p) ∧ w'.cell? ⟨W.heap.size, 1, none⟩ = some (.int .i64 a.l) ∧ w'.cell? ⟨W.heap.size, 2, none⟩ = some (.int .i64 a.r) ∧ w'.cell? ⟨W.heap.size + 1, 0, none⟩ = some (.int .i64 b.p) ∧ w'.cell? ⟨W.heap.size + 1, 1, none⟩ = some (.int .i64 b.l) ∧ w'.cell? ⟨W.heap.size + 1, 2, none⟩ = some (.int .i64 b.r) ∧ (convert 28 9 vp).run Try.prog w' = .ok (.string (strOfNums (StMath.bytes a))) w' ∧ (convert 28 9 vq).run Try.prog w' = .ok (.string (strOfNums (StMath.bytes b))) w') (by kernel_rfl) ⟨HA5.out.cells.1, HA5.out.cells.2.1, HA5.out.cells.2.2, HX5.out.cells.1, HX5.out.cells.2.1, HX5.out.cells.2.2, bytes_string HP5.out, bytes_string HQ5.out⟩ (fun hS => ?_)
  clear HB4 HA4 HX4 HP HQ
  generalize v4.drew = v5 at *
  refine wpAnyH_take (i := 0) (v := ?_) rfl (by kernel_rfl) (by kernel_rfl) (by kernel_rfl) (fun _ _ _ h => h) (Or.inl ⟨by rfl, ?_⟩) hS ?_
  rotate_left 1
  · intro w hSw; (try dsimp only at hSw); go_simp <;> with_reducible rfl
  simp only [List.getElem_toArray, List.getElem_cons_zero, List.getElem_cons_succ, Act.put, List.setIfInBounds_toArray, List.set_cons_zero, List.set_cons_succ]
  refine wpAnyH_take (i := 2) (v := ?_) rfl (by kernel_rfl) (by kernel_rfl) (by kernel_rfl) (fun _ _ _ h => h) (Or.inl ⟨by rfl, ?_⟩) hS ?_
  rotate_left 1
  · intro w hSw; (try dsimp only at hSw); go_simp <;> with_reducible rfl
  simp only [List.getElem_toArray, List.getElem_cons_zero, List.getElem_cons_succ, Act.put, List.setIfInBounds_toArray, List.set_cons_zero, List.set_cons_succ]
  refine wpAnyH_ready (rs := [1]) (by kernel_rfl) (by simp) ?_
  refine AllReadyH.cons rfl (fun K hK => ?_) AllReadyH.nil
  go_simp
  refine Calls.mono (HRt.out a _) ?_
  rintro e v6 ⟨rfl, hbx⟩
  have HA6 : Hid (StAt v6 W.heap.size a) := HA5.out.later hbx HA5.out.lt
  have HX6 : Hid (StAt v6 (W.heap.size + 1) b) := HX5.out.later hbx HX5.out.lt
  have HB6 : Hid (Below W.heap.size W v6) := HB5.out.trans (hbx.mono HB5.out.size)
  have HP6 : Hid (Bytes v6 vp (StMath.bytes a)) := Bytes.later HP5.out hbx
  have HQ6 : Hid (Bytes v6 vq (StMath.bytes b)) := Bytes.later HQ5.out hbx
  refine hK.out _ _ ⟨HA6.out.cells.1, HA6.out.cells.2.1, HA6.out.cells.2.2, HX6.out.cells.1, HX6.out.cells.2.1, HX6.out.cells.2.2, bytes_string HP6.out, bytes_string HQ6.out⟩ (fun hS => ?_)
  clear hK K hbx
  refine wpAnyH_ready (rs := [3]) (by kernel_rfl) (by simp) ?_
  refine AllReadyH.cons rfl (fun K hK => ?_) AllReadyH.nil
  go_simp
  refine Calls.mono (HRR.out a _) ?_
  rintro e v7 ⟨rfl, hbx⟩
  have HA7 : Hid (StAt v7 W.heap.size a) := HA6.out.later hbx HA6.out.lt
  have HX7 : Hid (StAt v7 (W.heap.size + 1) b) := HX6.out.later hbx HX6.out.lt
  have HB7 : Hid (Below W.heap.size W v7) := HB6.out.trans (hbx.mono HB6.out.size)
  have HP7 : Hid (Bytes v7 vp (StMath.bytes a)) := Bytes.later HP6.out hbx
  have HQ7 : Hid (Bytes v7 vq (StMath.bytes b)) := Bytes.later HQ6.out hbx
  refine hK.out _ _ ⟨HA7.out.cells.1, HA7.out.cells.2.1, HA7.out.cells.2.2, HX7.out.cells.1, HX7.out.cells.2.1, HX7.out.cells.2.2, bytes_string HP7.out, bytes_string HQ7.out⟩ (fun hS => ?_)
  clear hK K hbx
  refine wpAnyH_take (i := 4) (v := ?_) rfl (by kernel_rfl) (by kernel_rfl) (by kernel_rfl) (fun _ _ _ h => h) (Or.inl ⟨by rfl, ?_⟩) hS ?_
  rotate_left 1
  · intro w hSw; (try dsimp only at hSw); go_simp <;> with_reducible rfl
  simp only [List.getElem_toArray, List.getElem_cons_zero, List.getElem_cons_succ, Act.put, List.setIfInBounds_toArray, List.set_cons_zero, List.set_cons_succ]
  refine wpAnyH_take (i := 5) (v := ?_) rfl (by kernel_rfl) (by kernel_rfl) (by kernel_rfl) (fun _ _ _ h => h) (Or.inl ⟨by rfl, ?_⟩) hS ?_
  rotate_left 1
  · intro w hSw; (try dsimp only at hSw); go_simp <;> with_reducible rfl
  simp only [List.getElem_toArray, List.getElem_cons_zero, List.getElem_cons_succ, Act.put, List.setIfInBounds_toArray, List.set_cons_zero, List.set_cons_succ]
  refine wpAnyH_take (i := 6) (v := ?_) rfl (by kernel_rfl) (by kernel_rfl) (by kernel_rfl) (fun _ _ _ h => h) (Or.inl ⟨by rfl, ?_⟩) hS ?_
  rotate_left 1
  · intro w hSw; (try dsimp only at hSw); go_simp <;> with_reducible rfl
  simp only [List.getElem_toArray, List.getElem_cons_zero, List.getElem_cons_succ, Act.put, List.setIfInBounds_toArray, List.set_cons_zero, List.set_cons_succ]
  refine wpAnyH_take (i := 8) (v := ?_) rfl (by kernel_rfl) (by kernel_rfl) (by kernel_rfl) (fun _ _ _ h => h) (Or.inl ⟨by rfl, ?_⟩) hS ?_
  rotate_left 1
  · intro w hSw; (try dsimp only at hSw); go_simp <;> with_reducible rfl
  simp only [List.getElem_toArray, List.getElem_cons_zero, List.getElem_cons_succ, Act.put, List.setIfInBounds_toArray, List.set_cons_zero, List.set_cons_succ]
  refine wpAnyH_ready (rs := [7]) (by kernel_rfl) (by simp) ?_
  refine AllReadyH.cons rfl (fun K hK => ?_) AllReadyH.nil
  go_simp
  refine Calls.mono (HRt.out b _) ?_
  rintro e v8 ⟨rfl, hbx⟩
  have HA8 : Hid (StAt v8 W.heap.size a) := HA7.out.later hbx HA7.out.lt
  have HX8 : Hid (StAt v8 (W.heap.size + 1) b) := HX7.out.later hbx HX7.out.lt
  have HB8 : Hid (Below W.heap.size W v8) := HB7.out.trans (hbx.mono HB7.out.size)
  have HP8 : Hid (Bytes v8 vp (StMath.bytes a)) := Bytes.later HP7.out hbx
  have HQ8 : Hid (Bytes v8 vq (StMath.bytes b)) := Bytes.later HQ7.out hbx
  refine hK.out _ _ ⟨HA8.out.cells.1, HA8.out.cells.2.1, HA8.out.cells.2.2, HX8.out.cells.1, HX8.out.cells.2.1, HX8.out.cells.2.2, bytes_string HP8.out, bytes_string HQ8.out⟩ (fun hS => ?_)
  clear hK K hbx
  refine wpAnyH_ready (rs := [9]) (by kernel_rfl) (by simp) ?_
  refine AllReadyH.cons rfl (fun K hK => ?_) AllReadyH.nil
  go_simp
  refine Calls.mono (HRR.out b _) ?_
  rintro e v9 ⟨rfl, hbx⟩
  have HA9 : Hid (StAt v9 W.heap.size a) := HA8.out.later hbx HA8.out.lt
  have HX9 : Hid (StAt v9 (W.heap.size + 1) b) := HX8.out.later hbx HX8.out.lt
  have HB9 : Hid (Below W.heap.size W v9) := HB8.out.trans (hbx.mono HB8.out.size)
  have HP9 : Hid (Bytes v9 vp (StMath.bytes a)) := Bytes.later HP8.out hbx
  have HQ9 : Hid (Bytes v9 vq (StMath.bytes b)) := Bytes.later HQ8.out hbx
  refine hK.out _ _ ⟨HA9.out.cells.1, HA9.out.cells.2.1, HA9.out.cells.2.2, HX9.out.cells.1, HX9.out.cells.2.1, HX9.out.cells.2.2, bytes_string HP9.out, bytes_string HQ9.out⟩ (fun hS => ?_)
  clear hK K hbx
  refine wpAnyH_take (i := 10) (v := ?_) rfl (by kernel_rfl) (by kernel_rfl) (by kernel_rfl) (fun _ _ _ h => h) (Or.inl ⟨by rfl, ?_⟩) hS ?_
  rotate_left 1
  · intro w hSw; (try dsimp only at hSw); go_simp <;> with_reducible rfl
  simp only [List.getElem_toArray, List.getElem_cons_zero, List.getElem_cons_succ, Act.put, List.setIfInBounds_toArray, List.set_cons_zero, List.set_cons_succ]
  refine wpAnyH_take (i := 11) (v := ?_) rfl (by kernel_rfl) (by kernel_rfl) (by kernel_rfl) (fun _ _ _ h => h) (Or.inl ⟨by rfl, ?_⟩) hS ?_
  rotate_left 1
  · intro w hSw; (try dsimp only at hSw); go_simp <;> with_reducible rfl
  simp only [List.getElem_toArray, List.getElem_cons_zero, List.getElem_cons_succ, Act.put, List.setIfInBounds_toArray, List.set_cons_zero, List.set_cons_succ]
  refine wpAnyH_take (i := 12) (v := ?_) rfl (by kernel_rfl) (by kernel_rfl) (by kernel_rfl) (fun _ _ _ h => h) (Or.inl ⟨by rfl, ?_⟩) hS ?_
  rotate_left 1
  · intro w hSw; (try dsimp only at hSw); go_simp <;> with_reducible rfl
  simp only [List.getElem_toArray, List.getElem_cons_zero, List.getElem_cons_succ, Act.put, List.setIfInBounds_toArray, List.set_cons_zero, List.set_cons_succ]
  refine wpAnyH_take (i := 13) (v := ?_) rfl (by kernel_rfl) (by kernel_rfl) (by kernel_rfl) (fun _ _ _ h => h) (Or.inl ⟨by rfl, ?_⟩) hS ?_
  rotate_left 1
  · intro w hSw; (try dsimp only at hSw); go_simp <;> with_reducible rfl
  simp only [List.getElem_toArray, List.getElem_cons_zero, List.getElem_cons_succ, Act.put, List.setIfInBounds_toArray, List.set_cons_zero, List.set_cons_succ]
  refine wpAnyH_take (i := 14) (v := ?_) rfl (by kernel_rfl) (by kernel_rfl) (by kernel_rfl) (fun _ _ _ h => h) (Or.inl ⟨by rfl, ?_⟩) hS ?_
  rotate_left 1
  · intro w hSw; (try dsimp only at hSw); go_simp <;> with_reducible rfl
  simp only [List.getElem_toArray, List.getElem_cons_zero, List.getElem_cons_succ, Act.put, List.setIfInBounds_toArray, List.set_cons_zero, List.set_cons_succ]
  refine wpAnyH_take (i := 15) (v := ?_) rfl (by kernel_rfl) (by kernel_rfl) (by kernel_rfl) (fun _ _ _ h => h) (Or.inl ⟨by rfl, ?_⟩) hS ?_
  rotate_left 1
  · intro w hSw; (try dsimp only at hSw); go_simp <;> with_reducible rfl
  simp only [List.getElem_toArray, List.getElem_cons_zero, List.getElem_cons_succ, Act.put, List.setIfInBounds_toArray, List.set_cons_zero, List.set_cons_succ]
  refine wpAnyH_ready (rs := [16]) (by kernel_rfl) (by simp) ?_
  refine AllReadyH.cons rfl (fun K hK => ?_) AllReadyH.nil
  go_simp
  refine Calls.mono (HRB.out a _) ?_
  rintro e v10 ⟨vr, rfl, hr, hbx⟩
  have HA10 : Hid (StAt v10 W.heap.size a) := HA9.out.later hbx HA9.out.lt
  have HX10 : Hid (StAt v10 (W.heap.size + 1) b) := HX9.out.later hbx HX9.out.lt
  have HB10 : Hid (Below W.heap.size W v10) := HB9.out.trans (hbx.mono HB9.out.size)
  have HP10 : Hid (Bytes v10 vp (StMath.bytes a)) := Bytes.later HP9.out hbx
  have HQ10 : Hid (Bytes v10 vq (StMath.bytes b)) := Bytes.later HQ9.out hbx
  have hstr := bytes_string hr
  clear hr
  refine hK.out _ _ ⟨HA10.out.cells.1, HA10.out.cells.2.1, HA10.out.cells.2.2, HX10.out.cells.1, HX10.out.cells.2.1, HX10.out.cells.2.2, bytes_string HP10.out, bytes_string HQ10.out⟩ (fun hS => ?_)
  clear hK K hbx
  refine wpAnyH_ready (rs := [17]) (by kernel_rfl) (by simp) ?_
  refine AllReadyH.cons rfl (fun K hK => ?_) AllReadyH.nil
  go_simp
  refine hK.out _ _ hS (fun hS => ?_)
  clear hK K hstr
  refine wpAnyH_take (i := 18) (v := ?_) rfl (by kernel_rfl) (by kernel_rfl) (by kernel_rfl) (fun _ _ _ h => h) (Or.inl ⟨by rfl, ?_⟩) hS ?_
  rotate_left 1
  · intro w hSw; (try dsimp only at hSw); go_simp <;> with_reducible rfl
  simp only [List.getElem_toArray, List.getElem_cons_zero, List.getElem_cons_succ, Act.put, List.setIfInBounds_toArray, List.set_cons_zero, List.set_cons_succ]
  refine wpAnyH_take (i := 19) (v := ?_) rfl (by kernel_rfl) (by kernel_rfl) (by kernel_rfl) (fun _ _ _ h => h) (Or.inl ⟨by rfl, ?_⟩) hS ?_
  rotate_left 1
  · intro w hSw; (try dsimp only at hSw); go_simp <;> with_reducible rfl
  simp only [List.getElem_toArray, List.getElem_cons_zero, List.getElem_cons_succ, Act.put, List.setIfInBounds_toArray, List.set_cons_zero, List.set_cons_succ]
  refine wpAnyH_take (i := 20) (v := ?_) rfl (by kernel_rfl) (by kernel_rfl) (by kernel_rfl) (fun _ _ _ h => h) (Or.inl ⟨by rfl, ?_⟩) hS ?_
  rotate_left 1
  · intro w hSw; (try dsimp only at hSw); go_simp <;> with_reducible rfl
  simp only [List.getElem_toArray, List.getElem_cons_zero, List.getElem_cons_succ, Act.put, List.setIfInBounds_toArray, List.set_cons_zero, List.set_cons_succ]
  refine wpAnyH_take (i := 21) (v := ?_) rfl (by kernel_rfl) (by kernel_rfl) (by kernel_rfl) (fun _ _ _ h => h) (Or.inl ⟨by rfl, ?_⟩) hS ?_
  rotate_left 1
  · intro w hSw; (try dsimp only at hSw); go_simp <;> with_reducible rfl
  simp only [List.getElem_toArray, List.getElem_cons_zero, List.getElem_cons_succ, Act.put, List.setIfInBounds_toArray, List.set_cons_zero, List.set_cons_succ]
  refine wpAnyH_take (i := 22) (v := ?_) rfl (by kernel_rfl) (by kernel_rfl) (by kernel_rfl) (fun _ _ _ h => h) (Or.inl ⟨by rfl, ?_⟩) hS ?_
  rotate_left 1
  · intro w hSw; (try dsimp only at hSw); go_simp <;> with_reducible rfl
  simp only [List.getElem_toArray, List.getElem_cons_zero, List.getElem_cons_succ, Act.put, List.setIfInBounds_toArray, List.set_cons_zero, List.set_cons_succ]
  refine wpAnyH_take (i := 23) (v := ?_) rfl (by kernel_rfl) (by kernel_rfl) (by kernel_rfl) (fun _ _ _ h => h) (Or.inl ⟨by rfl, ?_⟩) hS ?_
  rotate_left 1
  · intro w hSw; (try dsimp only at hSw); go_simp <;> with_reducible rfl
  simp only [List.getElem_toArray, List.getElem_cons_zero, List.getElem_cons_succ, Act.put, List.setIfInBounds_toArray, List.set_cons_zero, List.set_cons_succ]
  refine wpAnyH_ready (rs := [24]) (by kernel_rfl) (by simp) ?_
  refine AllReadyH.cons rfl (fun K hK => ?_) AllReadyH.nil
  go_simp
  refine Calls.mono (HRB.out b _) ?_
  rintro e v11 ⟨vr2, rfl, hr, hbx⟩
  have HA11 : Hid (StAt v11 W.heap.size a) := HA10.out.later hbx HA10.out.lt
  have HX11 : Hid (StAt v11 (W.heap.size + 1) b) := HX10.out.later hbx HX10.out.lt
  have HB11 : Hid (Below W.heap.size W v11) := HB10.out.trans (hbx.mono HB10.out.size)
  have HP11 : Hid (Bytes v11 vp (StMath.bytes a)) := Bytes.later HP10.out hbx
  have HQ11 : Hid (Bytes v11 vq (StMath.bytes b)) := Bytes.later HQ10.out hbx
  have hstr := bytes_string hr
  clear hr
  refine hK.out _ _ ⟨HA11.out.cells.1, HA11.out.cells.2.1, HA11.out.cells.2.2, HX11.out.cells.1, HX11.out.cells.2.1, HX11.out.cells.2.2, bytes_string HP11.out, bytes_string HQ11.out⟩ (fun hS => ?_)
  clear hK K hbx
  refine wpAnyH_ready (rs := [25]) (by kernel_rfl) (by simp) ?_
  refine AllReadyH.cons rfl (fun K hK => ?_) AllReadyH.nil
  go_simp
  refine hK.out _ _ hS (fun hS => ?_)
  clear hK K hstr
  refine wpAnyH_take (i := 26) (v := ?_) rfl (by kernel_rfl) (by kernel_rfl) (by kernel_rfl) (fun _ _ _ h => h) (Or.inl ⟨by rfl, ?_⟩) hS ?_
  rotate_left 1
  · intro w hSw; (try dsimp only at hSw); go_simp <;> with_reducible rfl
  simp only [List.getElem_toArray, List.getElem_cons_zero, List.getElem_cons_succ, Act.put, List.setIfInBounds_toArray, List.set_cons_zero, List.set_cons_succ]
  refine wpAnyH_take (i := 27) (v := ?_) rfl (by kernel_rfl) (by kernel_rfl) (by kernel_rfl) (fun _ _ _ h => h) (Or.inl ⟨by rfl, ?_⟩) hS ?_
  rotate_left 1
  · intro w hSw; (try dsimp only at hSw); go_simp <;> with_reducible rfl
  simp only [List.getElem_toArray, List.getElem_cons_zero, List.getElem_cons_succ, Act.put, List.setIfInBounds_toArray, List.set_cons_zero, List.set_cons_succ]
  refine wpAnyH_done (by kernel_rfl) ?_ _
  clear hS HBy HRB HRR
  obtain ⟨c0, c1, c2⟩ := HA11.out.cells
  obtain ⟨d0, d1, d2⟩ := HX11.out.cells
  cases hra : StMath.right a with
  | false =>
    have HRa : Hid _ := HRt.out a
    rw [hra] at HRa
    clear hra
    go_wp2_with fail
    refine Calls.mono (HRa.out _) ?_
    rintro e v12 ⟨rfl, hbx⟩
    have HB12 : Hid (Below W.heap.size W v12) := HB11.out.trans (hbx.mono HB11.out.size)
    clear hbx c0 c1 c2 d0 d1 d2
    go_wp2
    go_ret
    exact ⟨rfl, HB12.out⟩
  | true =>
    have HRa : Hid _ := HRt.out a
    rw [hra] at HRa
    have HIa : Hid _ := hra
    clear hra
    go_wp2_with fail
    refine Calls.mono (HRa.out _) ?_
    rintro e v12 ⟨rfl, hbx⟩
    have HB12 : Hid (Below W.heap.size W v12) := HB11.out.trans (hbx.mono HB11.out.size)
    have HA12 : Hid (StAt v12 W.heap.size a) := HA11.out.later hbx HA11.out.lt
    have HX12 : Hid (StAt v12 (W.heap.size + 1) b) := HX11.out.later hbx HX11.out.lt
    have HP12 : Hid (Bytes v12 vp (StMath.bytes a)) := Bytes.later HP11.out hbx
    have HQ12 : Hid (Bytes v12 vq (StMath.bytes b)) := Bytes.later HQ11.out hbx
    clear hbx c0 c1 c2 d0 d1 d2 HA11 HX11 HB11 HP11 HQ11
    obtain ⟨c0, c1, c2⟩ := HA12.out.cells
    obtain ⟨d0, d1, d2⟩ := HX12.out.cells
    cases hrb : StMath.right b with
    | false =>
      have HRb : Hid _ := HRt.out b
      rw [hrb] at HRb
      clear hrb
      go_wp2_with fail
      refine Calls.mono (HRb.out _) ?_
      rintro e v13 ⟨rfl, hbx⟩
      have HB13 : Hid (Below W.heap.size W v13) := HB12.out.trans (hbx.mono HB12.out.size)
      clear hbx c0 c1 c2 d0 d1 d2
      go_wp2
      go_ret
      exact ⟨rfl, HB13.out⟩
    | true =>
      have HRb : Hid _ := HRt.out b
      rw [hrb] at HRb
      have HIb : Hid _ := hrb
      clear hrb
      go_wp2_with fail
      refine Calls.mono (HRb.out _) ?_
      rintro e v13 ⟨rfl, hbx⟩
      have HB13 : Hid (Below W.heap.size W v13) := HB12.out.trans (hbx.mono HB12.out.size)
      have HA13 : Hid (StAt v13 W.heap.size a) := HA12.out.later hbx HA12.out.lt
      have HX13 : Hid (StAt v13 (W.heap.size + 1) b) := HX12.out.later hbx HX12.out.lt
      have HP13 : Hid (Bytes v13 vp (StMath.bytes a)) := Bytes.later HP12.out hbx
      have HQ13 : Hid (Bytes v13 vq (StMath.bytes b)) := Bytes.later HQ12.out hbx
      clear hbx c0 c1 c2 d0 d1 d2 HA12 HX12 HB12 HP12 HQ12
      have hlx : Op.bytesLess (strOfNums (StMath.bytes a)).toList (strOfNums (StMath.bytes b)).toList = StMath.less a b := by
        rw [strs_less _ _ (StMath.bytes_byte a) (StMath.bytes_byte b), StMath.lex_bytes HIa.out HIb.out]
      have hsx : ((strOfNums (StMath.bytes a)).toList == (strOfNums (StMath.bytes b)).toList) = eqS a b := by
        rw [strOf_eq (StMath.bytes_byte a) (StMath.bytes_byte b)]
        cases he : eqS a b with
        | true => simpa using (StMath.bytes_inj HIa.out HIb.out).2 (eqS_iff.1 he)
        | false => simpa using fun e => eqS_no he ((StMath.bytes_inj HIa.out HIb.out).1 e)
      have hrd := StMath.read_bytes HIa.out
      have hlen := StMath.bytes_len HIa.out
      obtain ⟨ap, cp, rfl, hrow, hbb, hcc, hmm, _⟩ := HP13.out
      have HCL : Hid (Calls Try.prog 14 #[.slice ap 9 cp] v13 fun e w' => e = .returned (.tuple #[.agg #[.int .i64 a.p, .int .i64 a.l, .int .i64 a.r], .int .i64 0]) ∧ Below v13.heap.size v13 w') := by
        have hcall := stRead_any ap (StMath.bytes a) cp v13 hrow hbb hcc hmm
        rw [hrd, hlen] at hcall
        exact hcall
      rw [hlen] at HP13 ⊢
      clear hrow hbb hcc hmm hrd hlen
      generalize StMath.bytes a = ya at *
      generalize StMath.bytes b = yb at *
      have HLL : Hid (∀ w, _) := HLs.out
      generalize StMath.less a b = ll at *
      clear HIa HIb HRa HRb HRt HLs
      go_wp2_with fail
      refine Calls.mono HCL.out ?_
      rintro e v14 ⟨rfl, hbx⟩
      have HB14 : Hid (Below W.heap.size W v14) := HB13.out.trans (hbx.mono HB13.out.size)
      have HA14 : Hid (StAt v14 W.heap.size a) := HA13.out.later hbx HA13.out.lt
      have HX14 : Hid (StAt v14 (W.heap.size + 1) b) := HX13.out.later hbx HX13.out.lt
      have HP14 : Hid (Bytes v14 (.slice ap 9 cp) ya) := Bytes.later HP13.out hbx
      have HQ14 : Hid (Bytes v14 vq yb) := Bytes.later HQ13.out hbx
      have hlt : W.heap.size + 1 < v14.heap.size := HX14.out.lt
      clear hbx HCL HB13 HA13 HX13 HP13 HQ13
      have HY0 : Hid (StAt (v14.alloc (.cells #[.int .i64 0, .int .i64 0, .int .i64 0] 23)) v14.heap.size StMath.zero) := StAt.new v14 StMath.zero rfl
      go_upto_region 9 with (refine wpList_store_st rfl (.tmp 7) (.tmp 54) rfl v14.heap.size StMath.zero a rfl rfl HY0.out ?_)
      (try simp only [Act.put, List.setIfInBounds_toArray, List.set_cons_zero, List.set_cons_succ])
      have HY15 : Hid (StAt ((v14.alloc (.cells #[.int .i64 0, .int .i64 0, .int .i64 0] 23)).setRow v14.heap.size (stL a).toArray) v14.heap.size a) := StAt.row HY0.out
      have HA15 : Hid (StAt ((v14.alloc (.cells #[.int .i64 0, .int .i64 0, .int .i64 0] 23)).setRow v14.heap.size (stL a).toArray) W.heap.size a) := StAt.row_other (HA14.out.alloc _) _ (by omega)
      have HX15 : Hid (StAt ((v14.alloc (.cells #[.int .i64 0, .int .i64 0, .int .i64 0] 23)).setRow v14.heap.size (stL a).toArray) (W.heap.size + 1) b) := StAt.row_other (HX14.out.alloc _) _ (by omega)
      have HB15 : Hid (Below W.heap.size W ((v14.alloc (.cells #[.int .i64 0, .int .i64 0, .int .i64 0] 23)).setRow v14.heap.size (stL a).toArray)) := below_setRow (HB14.out.alloc HB14.out.size _) HB14.out.size _
      have HW15 : Hid (Below v14.heap.size v14 ((v14.alloc (.cells #[.int .i64 0, .int .i64 0, .int .i64 0] 23)).setRow v14.heap.size (stL a).toArray)) := below_setRow ((Below.refl _ _).alloc (Nat.le_refl _) _) (Nat.le_refl _) _
      have HP15 : Hid (Bytes _ (.slice ap 9 cp) ya) := Bytes.later HP14.out HW15.out
      have HQ15 : Hid (Bytes _ vq yb) := Bytes.later HQ14.out HW15.out
      clear HY0 HA14 HX14 HB14 HP14 HQ14 HW15
      generalize (v14.alloc (.cells #[.int .i64 0, .int .i64 0, .int .i64 0] 23)).setRow v14.heap.size (stL a).toArray = v15 at *
      generalize v14.heap.size = gy at *
      rcases eqS_cases a b with ⟨q1, HQ⟩ | ⟨q1, q2, HQ⟩ | ⟨q1, q2, q3, HQ⟩ | ⟨q1, q2, q3, HQ⟩
      all_goals
        rw [HQ.out] at hsx
        have HB16 : Hid (Below W.heap.size W v15.drew) := HB15.out.drew
        have HA16 : Hid (StAt v15.drew W.heap.size a) := HA15.out.drew
        have HX16 : Hid (StAt v15.drew (W.heap.size + 1) b) := HX15.out.drew
        have HY16 : Hid (StAt v15.drew gy a) := HY15.out.drew
        have HP16 : Hid (Bytes v15.drew (.slice ap 9 cp) ya) := Bytes.drew HP15.out
        have HQ16 : Hid (Bytes v15.drew vq yb) := Bytes.drew HQ15.out
        refine wp_region_held_drew (S := fun w' => w'.cell? ⟨W.heap.size, 0, none⟩ = some (.int .i64 a.p) ∧ w'.cell? ⟨W.heap.size, 1, none⟩ = some (.int .i64 a.l) ∧ w'.cell? ⟨W.heap.size, 2, none⟩ = some (.int .i64 a.r) ∧ w'.cell? ⟨W.heap.size + 1, 0, none⟩ = some (.int .i64 b.p) ∧ w'.cell? ⟨W.heap.size + 1, 1, none⟩ = some (.int .i64 b.l) ∧ w'.cell? ⟨W.heap.size + 1, 2, none⟩ = some (.int .i64 b.r) ∧ (convert 28 9 (.slice ap 9 cp)).run Try.prog w' = .ok (.string (strOfNums ya)) w' ∧ (convert 28 9 vq).run Try.prog w' = .ok (.string (strOfNums yb)) w' ∧ w'.cell? ⟨gy, 0, none⟩ = some (.int .i64 a.p) ∧ w'.cell? ⟨gy, 1, none⟩ = some (.int .i64 a.l) ∧ w'.cell? ⟨gy, 2, none⟩ = some (.int .i64 a.r)) (by kernel_rfl) ⟨HA16.out.cells.1, HA16.out.cells.2.1, HA16.out.cells.2.2, HX16.out.cells.1, HX16.out.cells.2.1, HX16.out.cells.2.2, bytes_string HP16.out, bytes_string HQ16.out, HY16.out.cells.1, HY16.out.cells.2.1, HY16.out.cells.2.2⟩ (fun hS => ?_)
        clear HB15 HA15 HX15 HY15 HP15 HQ15
        generalize v15.drew = v16 at *
        refine wpAnyH_take (i := 0) (v := ?_) rfl (by kernel_rfl) (by kernel_rfl) (by kernel_rfl) (fun _ _ _ h => h) (Or.inl ⟨by rfl, ?_⟩) hS ?_
        rotate_left 1
        · intro w hSw; (try dsimp only at hSw); go_simp <;> with_reducible rfl
        simp only [List.getElem_toArray, List.getElem_cons_zero, List.getElem_cons_succ, Act.put, List.setIfInBounds_toArray, List.set_cons_zero, List.set_cons_succ]
        refine wpAnyH_take (i := 1) (v := ?_) rfl (by kernel_rfl) (by kernel_rfl) (by kernel_rfl) (fun _ _ _ h => h) (Or.inl ⟨by rfl, ?_⟩) hS ?_
        rotate_left 1
        · intro w hSw; (try dsimp only at hSw); go_simp <;> with_reducible rfl
        simp only [List.getElem_toArray, List.getElem_cons_zero, List.getElem_cons_succ, Act.put, List.setIfInBounds_toArray, List.set_cons_zero, List.set_cons_succ]
        refine wpAnyH_take (i := 2) (v := ?_) rfl (by kernel_rfl) (by kernel_rfl) (by kernel_rfl) (fun _ _ _ h => h) (Or.inl ⟨by rfl, ?_⟩) hS ?_
        rotate_left 1
        · intro w hSw; (try dsimp only at hSw); go_simp <;> with_reducible rfl
        simp only [List.getElem_toArray, List.getElem_cons_zero, List.getElem_cons_succ, Act.put, List.setIfInBounds_toArray, List.set_cons_zero, List.set_cons_succ]
        refine wpAnyH_take (i := 3) (v := ?_) rfl (by kernel_rfl) (by kernel_rfl) (by kernel_rfl) (fun _ _ _ h => h) (Or.inl ⟨by rfl, ?_⟩) hS ?_
        rotate_left 1
        · intro w hSw; (try dsimp only at hSw); go_simp <;> with_reducible rfl
        simp only [List.getElem_toArray, List.getElem_cons_zero, List.getElem_cons_succ, Act.put, List.setIfInBounds_toArray, List.set_cons_zero, List.set_cons_succ]
        refine wpAnyH_take (i := 4) (v := ?_) rfl (by kernel_rfl) (by kernel_rfl) (by kernel_rfl) (fun _ _ _ h => h) (Or.inl ⟨by rfl, ?_⟩) hS ?_
        rotate_left 1
        · intro w hSw; (try dsimp only at hSw); go_simp <;> with_reducible rfl
        simp only [List.getElem_toArray, List.getElem_cons_zero, List.getElem_cons_succ, Act.put, List.setIfInBounds_toArray, List.set_cons_zero, List.set_cons_succ]
        refine wpAnyH_take (i := 5) (v := ?_) rfl (by kernel_rfl) (by kernel_rfl) (by kernel_rfl) (fun _ _ _ h => h) (Or.inl ⟨by rfl, ?_⟩) hS ?_
        rotate_left 1
        · intro w hSw; (try dsimp only at hSw); go_simp <;> with_reducible rfl
        simp only [List.getElem_toArray, List.getElem_cons_zero, List.getElem_cons_succ, Act.put, List.setIfInBounds_toArray, List.set_cons_zero, List.set_cons_succ]
        refine wpAnyH_take (i := 6) (v := ?_) rfl (by kernel_rfl) (by kernel_rfl) (by kernel_rfl) (fun _ _ _ h => h) (Or.inl ⟨by rfl, ?_⟩) hS ?_
        rotate_left 1
        · intro w hSw; (try dsimp only at hSw); go_simp <;> with_reducible rfl
        simp only [List.getElem_toArray, List.getElem_cons_zero, List.getElem_cons_succ, Act.put, List.setIfInBounds_toArray, List.set_cons_zero, List.set_cons_succ]
        refine wpAnyH_take (i := 7) (v := ?_) rfl (by kernel_rfl) (by kernel_rfl) (by kernel_rfl) (fun _ _ _ h => h) (Or.inl ⟨by rfl, ?_⟩) hS ?_
        rotate_left 1
        · intro w hSw; (try dsimp only at hSw); go_simp <;> with_reducible rfl
        simp only [List.getElem_toArray, List.getElem_cons_zero, List.getElem_cons_succ, Act.put, List.setIfInBounds_toArray, List.set_cons_zero, List.set_cons_succ]
        refine wpAnyH_take (i := 8) (v := ?_) rfl (by kernel_rfl) (by kernel_rfl) (by kernel_rfl) (fun _ _ _ h => h) (Or.inl ⟨by rfl, ?_⟩) hS ?_
        rotate_left 1
        · intro w hSw; (try dsimp only at hSw); go_simp <;> with_reducible rfl
        simp only [List.getElem_toArray, List.getElem_cons_zero, List.getElem_cons_succ, Act.put, List.setIfInBounds_toArray, List.set_cons_zero, List.set_cons_succ]
        refine wpAnyH_take (i := 9) (v := ?_) rfl (by kernel_rfl) (by kernel_rfl) (by kernel_rfl) (fun _ _ _ h => h) (Or.inl ⟨by rfl, ?_⟩) hS ?_
        rotate_left 1
        · intro w hSw; (try dsimp only at hSw); go_simp <;> with_reducible rfl
        simp only [List.getElem_toArray, List.getElem_cons_zero, List.getElem_cons_succ, Act.put, List.setIfInBounds_toArray, List.set_cons_zero, List.set_cons_succ]
        refine wpAnyH_take (i := 10) (v := ?_) rfl (by kernel_rfl) (by kernel_rfl) (by kernel_rfl) (fun _ _ _ h => h) (Or.inl ⟨by rfl, ?_⟩) hS ?_
        rotate_left 1
        · intro w hSw; (try dsimp only at hSw); go_simp <;> with_reducible rfl
        simp only [List.getElem_toArray, List.getElem_cons_zero, List.getElem_cons_succ, Act.put, List.setIfInBounds_toArray, List.set_cons_zero, List.set_cons_succ]
        refine wpAnyH_take (i := 11) (v := ?_) rfl (by kernel_rfl) (by kernel_rfl) (by kernel_rfl) (fun _ _ _ h => h) (Or.inl ⟨by rfl, ?_⟩) hS ?_
        rotate_left 1
        · intro w hSw; (try dsimp only at hSw); go_simp <;> with_reducible rfl
        simp only [List.getElem_toArray, List.getElem_cons_zero, List.getElem_cons_succ, Act.put, List.setIfInBounds_toArray, List.set_cons_zero, List.set_cons_succ]
        refine wpAnyH_take (i := 12) (v := ?_) rfl (by kernel_rfl) (by kernel_rfl) (by kernel_rfl) (fun _ _ _ h => h) (Or.inl ⟨by rfl, ?_⟩) hS ?_
        rotate_left 1
        · intro w hSw; (try dsimp only at hSw); go_simp <;> with_reducible rfl
        simp only [List.getElem_toArray, List.getElem_cons_zero, List.getElem_cons_succ, Act.put, List.setIfInBounds_toArray, List.set_cons_zero, List.set_cons_succ]
        refine wpAnyH_take (i := 13) (v := ?_) rfl (by kernel_rfl) (by kernel_rfl) (by kernel_rfl) (fun _ _ _ h => h) (Or.inl ⟨by rfl, ?_⟩) hS ?_
        rotate_left 1
        · intro w hSw; (try dsimp only at hSw); go_simp <;> with_reducible rfl
        simp only [List.getElem_toArray, List.getElem_cons_zero, List.getElem_cons_succ, Act.put, List.setIfInBounds_toArray, List.set_cons_zero, List.set_cons_succ]
        refine wpAnyH_take (i := 14) (v := ?_) rfl (by kernel_rfl) (by kernel_rfl) (by kernel_rfl) (fun _ _ _ h => h) (Or.inl ⟨by rfl, ?_⟩) hS ?_
        rotate_left 1
        · intro w hSw; (try dsimp only at hSw); go_simp <;> with_reducible rfl
        simp only [List.getElem_toArray, List.getElem_cons_zero, List.getElem_cons_succ, Act.put, List.setIfInBounds_toArray, List.set_cons_zero, List.set_cons_succ]
        refine wpAnyH_take (i := 15) (v := ?_) rfl (by kernel_rfl) (by kernel_rfl) (by kernel_rfl) (fun _ _ _ h => h) (Or.inl ⟨by rfl, ?_⟩) hS ?_
        rotate_left 1
        · intro w hSw; (try dsimp only at hSw); go_simp <;> with_reducible rfl
        simp only [List.getElem_toArray, List.getElem_cons_zero, List.getElem_cons_succ, Act.put, List.setIfInBounds_toArray, List.set_cons_zero, List.set_cons_succ]
        refine wpAnyH_take (i := 16) (v := ?_) rfl (by kernel_rfl) (by kernel_rfl) (by kernel_rfl) (fun _ _ _ h => h) (Or.inl ⟨by rfl, ?_⟩) hS ?_
        rotate_left 1
        · intro w hSw; (try dsimp only at hSw); go_simp <;> with_reducible rfl
        simp only [List.getElem_toArray, List.getElem_cons_zero, List.getElem_cons_succ, Act.put, List.setIfInBounds_toArray, List.set_cons_zero, List.set_cons_succ]
        refine wpAnyH_take (i := 17) (v := ?_) rfl (by kernel_rfl) (by kernel_rfl) (by kernel_rfl) (fun _ _ _ h => h) (Or.inl ⟨by rfl, ?_⟩) hS ?_
        rotate_left 1
        · intro w hSw; (try dsimp only at hSw); go_simp <;> with_reducible rfl
        simp only [List.getElem_toArray, List.getElem_cons_zero, List.getElem_cons_succ, Act.put, List.setIfInBounds_toArray, List.set_cons_zero, List.set_cons_succ]
        refine wpAnyH_take (i := 18) (v := ?_) rfl (by kernel_rfl) (by kernel_rfl) (by kernel_rfl) (fun _ _ _ h => h) (Or.inl ⟨by rfl, ?_⟩) hS ?_
        rotate_left 1
        · intro w hSw; (try dsimp only at hSw); go_simp <;> with_reducible rfl
        simp only [List.getElem_toArray, List.getElem_cons_zero, List.getElem_cons_succ, Act.put, List.setIfInBounds_toArray, List.set_cons_zero, List.set_cons_succ]
        refine wpAnyH_take (i := 19) (v := ?_) rfl (by kernel_rfl) (by kernel_rfl) (by kernel_rfl) (fun _ _ _ h => h) (Or.inl ⟨by rfl, ?_⟩) hS ?_
        rotate_left 1
        · intro w hSw; (try dsimp only at hSw); go_simp <;> with_reducible rfl
        simp only [List.getElem_toArray, List.getElem_cons_zero, List.getElem_cons_succ, Act.put, List.setIfInBounds_toArray, List.set_cons_zero, List.set_cons_succ]
        refine wpAnyH_ready (rs := [20]) (by kernel_rfl) (by simp) ?_
        refine AllReadyH.cons rfl (fun K hK => ?_) AllReadyH.nil
        go_simp
        refine Calls.mono (HLL.out _) ?_
        rintro e v17 ⟨rfl, hbx⟩
        have HA17 : Hid (StAt v17 W.heap.size a) := HA16.out.later hbx HA16.out.lt
        have HX17 : Hid (StAt v17 (W.heap.size + 1) b) := HX16.out.later hbx HX16.out.lt
        have HY17 : Hid (StAt v17 gy a) := HY16.out.later hbx HY16.out.lt
        have HP17 : Hid (Bytes v17 (.slice ap 9 cp) ya) := Bytes.later HP16.out hbx
        have HQ17 : Hid (Bytes v17 vq yb) := Bytes.later HQ16.out hbx
        have HB17 : Hid (Below W.heap.size W v17) := HB16.out.trans (hbx.mono HB16.out.size)
        refine hK.out _ _ ⟨HA17.out.cells.1, HA17.out.cells.2.1, HA17.out.cells.2.2, HX17.out.cells.1, HX17.out.cells.2.1, HX17.out.cells.2.2, bytes_string HP17.out, bytes_string HQ17.out, HY17.out.cells.1, HY17.out.cells.2.1, HY17.out.cells.2.2⟩ (fun hS => ?_)
        clear hK K hbx
        refine wpAnyH_take (i := 21) (v := ?_) rfl (by kernel_rfl) (by kernel_rfl) (by kernel_rfl) (fun _ _ _ h => h) (Or.inl ⟨by rfl, ?_⟩) hS ?_
        rotate_left 1
        · intro w hSw; (try dsimp only at hSw); go_simp <;> with_reducible rfl
        simp only [List.getElem_toArray, List.getElem_cons_zero, List.getElem_cons_succ, Act.put, List.setIfInBounds_toArray, List.set_cons_zero, List.set_cons_succ]
        refine wpAnyH_take (i := 22) (v := ?_) rfl (by kernel_rfl) (by kernel_rfl) (by kernel_rfl) (fun _ _ _ h => h) (Or.inl ⟨by rfl, ?_⟩) hS ?_
        rotate_left 1
        · intro w hSw; (try dsimp only at hSw); go_simp <;> with_reducible rfl
        simp only [List.getElem_toArray, List.getElem_cons_zero, List.getElem_cons_succ, Act.put, List.setIfInBounds_toArray, List.set_cons_zero, List.set_cons_succ]
        refine wpAnyH_take (i := 23) (v := ?_) rfl (by kernel_rfl) (by kernel_rfl) (by kernel_rfl) (fun _ _ _ h => h) (Or.inl ⟨by rfl, ?_⟩) hS ?_
        rotate_left 1
        · intro w hSw; (try dsimp only at hSw); go_simp <;> with_reducible rfl
        simp only [List.getElem_toArray, List.getElem_cons_zero, List.getElem_cons_succ, Act.put, List.setIfInBounds_toArray, List.set_cons_zero, List.set_cons_succ]
        refine wpAnyH_take (i := 24) (v := ?_) rfl (by kernel_rfl) (by kernel_rfl) (by kernel_rfl) (fun _ _ _ h => h) (Or.inl ⟨by rfl, ?_⟩) hS ?_
        rotate_left 1
        · intro w hSw; (try dsimp only at hSw); go_simp <;> with_reducible rfl
        simp only [List.getElem_toArray, List.getElem_cons_zero, List.getElem_cons_succ, Act.put, List.setIfInBounds_toArray, List.set_cons_zero, List.set_cons_succ]
        refine wpAnyH_take (i := 25) (v := ?_) rfl (by kernel_rfl) (by kernel_rfl) (by kernel_rfl) (fun _ _ _ h => h) (Or.inl ⟨by rfl, ?_⟩) hS ?_
        rotate_left 1
        · intro w hSw; (try dsimp only at hSw); go_simp <;> with_reducible rfl
        simp only [List.getElem_toArray, List.getElem_cons_zero, List.getElem_cons_succ, Act.put, List.setIfInBounds_toArray, List.set_cons_zero, List.set_cons_succ]
        refine wpAnyH_take (i := 26) (v := ?_) rfl (by kernel_rfl) (by kernel_rfl) (by kernel_rfl) (fun _ _ _ h => h) (Or.inl ⟨by rfl, ?_⟩) hS ?_
        rotate_left 1
        · intro w hSw; (try dsimp only at hSw); go_simp <;> with_reducible rfl
        simp only [List.getElem_toArray, List.getElem_cons_zero, List.getElem_cons_succ, Act.put, List.setIfInBounds_toArray, List.set_cons_zero, List.set_cons_succ]
        refine wpAnyH_take (i := 27) (v := ?_) rfl (by kernel_rfl) (by kernel_rfl) (by kernel_rfl) (fun _ _ _ h => h) (Or.inl ⟨by rfl, ?_⟩) hS ?_
        rotate_left 1
        · intro w hSw; (try dsimp only at hSw); go_simp <;> with_reducible rfl
        simp only [List.getElem_toArray, List.getElem_cons_zero, List.getElem_cons_succ, Act.put, List.setIfInBounds_toArray, List.set_cons_zero, List.set_cons_succ]
        refine wpAnyH_take (i := 28) (v := ?_) rfl (by kernel_rfl) (by kernel_rfl) (by kernel_rfl) (fun _ _ _ h => h) (Or.inl ⟨by rfl, ?_⟩) hS ?_
        rotate_left 1
        · intro w hSw; (try dsimp only at hSw); go_simp <;> with_reducible rfl
        simp only [List.getElem_toArray, List.getElem_cons_zero, List.getElem_cons_succ, Act.put, List.setIfInBounds_toArray, List.set_cons_zero, List.set_cons_succ]
        refine wpAnyH_take (i := 29) (v := ?_) rfl (by kernel_rfl) (by kernel_rfl) (by kernel_rfl) (fun _ _ _ h => h) (Or.inl ⟨by rfl, ?_⟩) hS ?_
        rotate_left 1
        · intro w hSw; (try dsimp only at hSw); go_simp <;> with_reducible rfl
        simp only [List.getElem_toArray, List.getElem_cons_zero, List.getElem_cons_succ, Act.put, List.setIfInBounds_toArray, List.set_cons_zero, List.set_cons_succ]
        refine wpAnyH_take (i := 30) (v := ?_) rfl (by kernel_rfl) (by kernel_rfl) (by kernel_rfl) (fun _ _ _ h => h) (Or.inl ⟨by rfl, ?_⟩) hS ?_
        rotate_left 1
        · intro w hSw; (try dsimp only at hSw); go_simp <;> with_reducible rfl
        simp only [List.getElem_toArray, List.getElem_cons_zero, List.getElem_cons_succ, Act.put, List.setIfInBounds_toArray, List.set_cons_zero, List.set_cons_succ]
        refine wpAnyH_take (i := 31) (v := ?_) rfl (by kernel_rfl) (by kernel_rfl) (by kernel_rfl) (fun _ _ _ h => h) (Or.inl ⟨by rfl, ?_⟩) hS ?_
        rotate_left 1
        · intro w hSw; (try dsimp only at hSw); go_simp <;> with_reducible rfl
        simp only [List.getElem_toArray, List.getElem_cons_zero, List.getElem_cons_succ, Act.put, List.setIfInBounds_toArray, List.set_cons_zero, List.set_cons_succ]
        refine wpAnyH_take (i := 32) (v := ?_) rfl (by kernel_rfl) (by kernel_rfl) (by kernel_rfl) (fun _ _ _ h => h) (Or.inl ⟨by rfl, ?_⟩) hS ?_
        rotate_left 1
        · intro w hSw; (try dsimp only at hSw); go_simp <;> with_reducible rfl
        simp only [List.getElem_toArray, List.getElem_cons_zero, List.getElem_cons_succ, Act.put, List.setIfInBounds_toArray, List.set_cons_zero, List.set_cons_succ]
        refine wpAnyH_take (i := 33) (v := ?_) rfl (by kernel_rfl) (by kernel_rfl) (by kernel_rfl) (fun _ _ _ h => h) (Or.inl ⟨by rfl, ?_⟩) hS ?_
        rotate_left 1
        · intro w hSw; (try dsimp only at hSw); go_simp <;> with_reducible rfl
        simp only [List.getElem_toArray, List.getElem_cons_zero, List.getElem_cons_succ, Act.put, List.setIfInBounds_toArray, List.set_cons_zero, List.set_cons_succ]
        refine wpAnyH_take (i := 34) (v := ?_) rfl (by kernel_rfl) (by kernel_rfl) (by kernel_rfl) (fun _ _ _ h => h) (Or.inl ⟨by rfl, ?_⟩) hS ?_
        rotate_left 1
        · intro w hSw; (try dsimp only at hSw); go_simp <;> with_reducible rfl
        simp only [List.getElem_toArray, List.getElem_cons_zero, List.getElem_cons_succ, Act.put, List.setIfInBounds_toArray, List.set_cons_zero, List.set_cons_succ]
        refine wpAnyH_done (by kernel_rfl) ?_ _
        go_wp2
        go_ret
        exact ⟨rfl, HB17.out⟩
end Go.Proofs.Ytcgnkembfpcnnaa

/-
  FnRefD.
-/
import Derived.Test.YteockpllnhjooaaGreatDoorQC28
import Derived.Test.YteockpllnhjooaaGreatDoorQC25
import Derived.Test.YteockpllnhjooaaGreatDoorQC18
namespace Go.Proofs.YteockpllnhjooaaGreatDoor
open Go.RowKit NumMath
open AddrMath (pre post is No colon lower way dots combine finish parse http https isHost isPort value usual Sch Parts5 schemeOf)
set_option maxRecDepth 100000
set_option linter.unusedVariables false
set_option linter.unusedSimpArgs false

theorem upTo_at (l S : List Nat) (k : Nat) (hb : ∀ c ∈ l, c < 256) (hS : ∀ c ∈ S, c < 256) (hm : l.length ≤ 1000000) (hSm : S.length ≤ 1000000) (hk : (pre (anyOf S) l).length = k) (w : World) :
    Calls Tryz.prog 56 #[.string (strN l), .string (strN S)] w fun e w' => e = .returned (.int .i64 (k : Int)) ∧ Below w.heap.size w w' := by
  rw [← hk]; exact upTo_any l S w hb hS hm hSm
theorem slice_to {w : World} (l a : List Nat) (k : Nat) (hk : k ≤ l.length) (ha : l.take k = a) : (Instr.sliceAt 9 (.string (strN l)) none (some (.int .i64 (k : Int))) none).run Tryz.prog w = .ok (.string (strN a)) w := by
  rw [← ha]; exact run_slice_strN0 l .i64 k hk
theorem slice_from {w : World} (l a : List Nat) (k : Nat) (hk : k ≤ l.length) (ha : l.drop k = a) : (Instr.sliceAt 9 (.string (strN l)) (some (.int .i64 (k : Int))) none none).run Tryz.prog w = .ok (.string (strN a)) w := by
  rw [← ha]; exact run_slice_from l .i64 k hk
theorem No.any2 {a b : Nat} {l : List Nat} (h1 : No (is a) l) (h2 : No (is b) l) : No (anyOf [a, b]) l := by
  intro x hx
  have e1 := h1 x hx
  have e2 := h2 x hx
  simp [is] at e1 e2
  simp [anyOf, e1, e2]
theorem No.any3 {a b c : Nat} {l : List Nat} (h1 : No (is a) l) (h2 : No (is b) l) (h3 : No (is c) l) : No (anyOf [a, b, c]) l := by
  intro x hx
  have e1 := h1 x hx
  have e2 := h2 x hx
  have e3 := h3 x hx
  simp [is] at e1 e2 e3
  simp [anyOf, e1, e2, e3]
theorem rway_path {pa : List Nat} (h0 : AddrMath.Ends (is 47) pa) (hn : No (is 63) pa) : rwayV false pa = match way true pa.tail with | some p => .tuple #[.string (strN (if pa = [] then [] else 47 :: p)), .bool true] | none => .tuple #[.string (strN []), .bool false] := by
  rcases h0 with rfl | ⟨c, t, rfl, hc⟩
  · rfl
  · have : c = 47 := by simpa [is] using hc
    subst this
    have e : way false (47 :: t) = (way true t).map (47 :: ·) := by
      rw [AddrMath.way_low t (by decide) (by decide), if_pos (by decide), AddrMath.way_no63 t.length t (Nat.le_refl _) (hn.tail)]
    show rwayV false (47 :: t) = match way true t with | some p => _ | none => _
    cases h : way true t with
    | none => exact rwayV_none (by rw [e, h]; rfl)
    | some p => exact rwayV_some (by rw [e, h]; rfl)
theorem rway_query {qu : List Nat} (h0 : AddrMath.Ends (is 63) qu) : rwayV true qu = match way true qu.tail with | some y => .tuple #[.string (strN (if qu = [] then [] else 63 :: y)), .bool true] | none => .tuple #[.string (strN []), .bool false] := by
  rcases h0 with rfl | ⟨c, t, rfl, hc⟩
  · rfl
  · have : c = 63 := by simpa [is] using hc
    subst this
    have e : way true (63 :: t) = (way true t).map (63 :: ·) := by
      rw [AddrMath.way_low t (by decide) (by decide), if_pos (by decide)]
    show rwayV true (63 :: t) = match way true t with | some p => _ | none => _
    cases h : way true t with
    | none => exact rwayV_none (by rw [e, h]; rfl)
    | some p => exact rwayV_some (by rw [e, h]; rfl)
/-- The number that isn't told. -/
def usualN (sch : List Nat) : Nat := if sch = https then 443 else 80
theorem usual_num {sch p : List Nat} (h : isPort p = true) : (p = usual sch ↔ value p = usualN sch) := by
  have := AddrMath.port_usual h
  unfold usual usualN
  split
  · exact this.2
  · exact this.1

set_option maxRecDepth 100000 in
set_option maxHeartbeats 8000000 in
theorem refParse_err (s : List Nat) (w : World) (hb : ∀ c ∈ s, c < 256) (hm : s.length ≤ 10000) (hno : schemeOf s = none) :
    Calls Tryz.prog 30 #[.string (strN s)] w fun e w' => e = .returned (.tuple #[.string (strN []), .int .i64 25]) ∧ Below w.heap.size w w' := by
  have hsz := strN_size s
  have HU1 : Hid (∀ w, _) := fun w => upTo_at s [58] (pre (is 58) s).length hb (by decide) (by omega) (by decide) (by rw [anyOf_one]) w
  have hub : ∀ c ∈ pre (is 58) s, c < 256 := fun c hc => hb c (AddrMath.pre_mem hc)
  have hul := AddrMath.pre_len (is 58) s
  have hs1 := fun w => slice_to (w := w) s (pre (is 58) s) (pre (is 58) s).length hul (AddrMath.pre_take _ _)
  have HLo : Hid (∀ w, _) := fun w => refLower_any (pre (is 58) s) w hub (by omega)
  have hLb := AddrMath.lower_lt hub
  have hs2 : (pre (is 58) s).length + 3 ≤ s.length → ∀ w, (Instr.sliceAt 9 (.string (strN s)) (some (.int .i64 (((pre (is 58) s).length : Nat) : Int))) (some (.int .i64 ((((pre (is 58) s).length : Nat) : Int) + 3))) none).run Tryz.prog w = .ok (.string (strN ((post (is 58) s).take 3))) w := by
    intro h w
    have := run_slice_strN (w := w) s .i64 .i64 (pre (is 58) s).length ((pre (is 58) s).length + 3) (by omega) h
    rw [AddrMath.post_drop, Nat.add_sub_cancel_left] at this
    exact this
  have hno2 : ¬ ((lower (pre (is 58) s) = http ∨ lower (pre (is 58) s) = https) ∧ (post (is 58) s).take 3 = colon) := by
    intro h
    unfold schemeOf at hno
    rw [if_pos h] at hno
    cases hno
  have hpb : ∀ c ∈ (post (is 58) s).take 3, c < 256 := fun c hc => hb c (AddrMath.post_mem (List.mem_of_mem_take hc))
  generalize lower (pre (is 58) s) = U at *
  obtain ⟨n, hn⟩ : ∃ n, n = (pre (is 58) s).length := ⟨_, rfl⟩
  rw [← hn] at HU1 hs1 hs2 hul
  generalize pre (is 58) s = u at *
  generalize (post (is 58) s).take 3 = T at *
  clear hn hno
  have hq1 := eq_lit http [104, 116, 116, 112] rfl hLb (by decide)
  have hq2 := eq_lit https [104, 116, 116, 112, 115] rfl hLb (by decide)
  have hq3 := eq_lit colon [58, 47, 47] rfl hpb (by decide)
  by_cases hU2 : U = https
  · have hU1 : ¬ U = http := by rw [hU2]; decide
    rw [decide_eq_true hU2] at hq2
    rw [decide_eq_false hU1] at hq1
    have hT : ¬ T = colon := fun e => hno2 ⟨.inr hU2, e⟩
    rw [decide_eq_false hT] at hq3
    clear hU1 hU2 hT hno2
    by_cases hl3 : n + 3 ≤ s.length
    · have hs3 := hs2 hl3
      clear hs2
      go_enter Tryz.func30, Tryz.ntmps30
      go_wp2_with fail
      refine Calls.mono (HU1.out _) ?_
      rintro e w5 ⟨rfl, hb5⟩
      have HB5 : Hid _ := hb5
      clear hb5
      go_wp2_with fail
      refine Calls.mono (HLo.out _) ?_
      rintro e w6 ⟨rfl, hb6⟩
      have HB6 : Hid _ := HB5.out.trans (hb6.mono HB5.out.size)
      clear hb6
      go_wp2
      go_ret2
      exact ⟨rfl, HB6.out⟩
    · clear hs2
      go_enter Tryz.func30, Tryz.ntmps30
      go_wp2_with fail
      refine Calls.mono (HU1.out _) ?_
      rintro e w7 ⟨rfl, hb7⟩
      have HB7 : Hid _ := hb7
      clear hb7
      go_wp2_with fail
      refine Calls.mono (HLo.out _) ?_
      rintro e w8 ⟨rfl, hb8⟩
      have HB8 : Hid _ := HB7.out.trans (hb8.mono HB7.out.size)
      clear hb8
      go_wp2
      go_ret2
      exact ⟨rfl, HB8.out⟩
  · rw [decide_eq_false hU2] at hq2
    by_cases hU1 : U = http
    · rw [decide_eq_true hU1] at hq1
      have hT : ¬ T = colon := fun e => hno2 ⟨.inl hU1, e⟩
      rw [decide_eq_false hT] at hq3
      clear hU1 hU2 hT hno2
      by_cases hl3 : n + 3 ≤ s.length
      · have hs3 := hs2 hl3
        clear hs2
        go_enter Tryz.func30, Tryz.ntmps30
        go_wp2_with fail
        refine Calls.mono (HU1.out _) ?_
        rintro e w1 ⟨rfl, hb1⟩
        have HB1 : Hid _ := hb1
        clear hb1
        go_wp2_with fail
        refine Calls.mono (HLo.out _) ?_
        rintro e w2 ⟨rfl, hb2⟩
        have HB2 : Hid _ := HB1.out.trans (hb2.mono HB1.out.size)
        clear hb2
        go_wp2
        go_ret2
        exact ⟨rfl, HB2.out⟩
      · clear hs2
        go_enter Tryz.func30, Tryz.ntmps30
        go_wp2_with fail
        refine Calls.mono (HU1.out _) ?_
        rintro e w3 ⟨rfl, hb3⟩
        have HB3 : Hid _ := hb3
        clear hb3
        go_wp2_with fail
        refine Calls.mono (HLo.out _) ?_
        rintro e w4 ⟨rfl, hb4⟩
        have HB4 : Hid _ := HB3.out.trans (hb4.mono HB3.out.size)
        clear hb4
        go_wp2
        go_ret2
        exact ⟨rfl, HB4.out⟩
    · rw [decide_eq_false hU1] at hq1
      clear hU1 hU2 hno2 hs2
      go_enter Tryz.func30, Tryz.ntmps30
      go_wp2_with fail
      refine Calls.mono (HU1.out _) ?_
      rintro e w9 ⟨rfl, hb9⟩
      have HB9 : Hid _ := hb9
      clear hb9
      go_wp2_with fail
      refine Calls.mono (HLo.out _) ?_
      rintro e w10 ⟨rfl, hb10⟩
      have HB10 : Hid _ := HB9.out.trans (hb10.mono HB9.out.size)
      clear hb10
      go_wp2
      go_ret2
      exact ⟨rfl, HB10.out⟩

/-- The path and the query, as the two calls answer. -/
theorem way_pack (pa qu : List Nat) (h1 : AddrMath.Ends (is 47) pa) (h2 : No (is 63) pa) (h3 : AddrMath.Ends (is 63) qu) (hpb : ∀ c ∈ pa, c < 256) (hqb : ∀ c ∈ qu, c < 256) (hpl : pa.length ≤ 10000) (hql : qu.length ≤ 10000) :
    ∃ (b1 b2 z : Bool) (Z Q D : List Nat), Z.length ≤ 30001 ∧ Q.length ≤ 30001 ∧ D.length ≤ 30001 ∧
      (∀ w, Calls Tryz.prog 60 #[.string (strN pa), .bool false] w fun e w' => e = .returned (.tuple #[.string (strN Z), .bool b1]) ∧ Below w.heap.size w w') ∧
      (∀ w, Calls Tryz.prog 60 #[.string (strN qu), .bool true] w fun e w' => e = .returned (.tuple #[.string (strN Q), .bool b2]) ∧ Below w.heap.size w w') ∧
      ((strN Z).toList == []) = z ∧
      (b1 = true → z = true → ∀ w, Calls Tryz.prog 61 #[.string (strN [47])] w fun e w' => e = .returned (.string (strN D)) ∧ Below w.heap.size w w') ∧
      (b1 = true → z = false → ∀ w, Calls Tryz.prog 61 #[.string (strN Z)] w fun e w' => e = .returned (.string (strN D)) ∧ Below w.heap.size w w') ∧
      (∀ X : List Nat, (match way true pa.tail, way true qu.tail with | some p, some y => some (X ++ (dots p ++ (if qu = [] then [] else 63 :: y))) | _, _ => none) = if b1 && b2 then some (X ++ (D ++ Q)) else none) := by
  have hwl : ∀ l p : List Nat, l.length ≤ 10000 → way true l = some p → (∀ c ∈ p, c < 256) ∧ p.length ≤ 30000 := by
    intro l p h2 hw
    have h3 := AddrMath.way_len l.length l p (Nat.le_refl _) hw
    exact ⟨AddrMath.norm_lt (AddrMath.norm_way l.length l p (Nat.le_refl _) hw), by omega⟩
  have hpt : pa.tail.length ≤ 10000 ∧ qu.tail.length ≤ 10000 := by rw [List.length_tail, List.length_tail]; omega
  have W1 := fun w => refWay_any pa false w hpb (by omega)
  have W2 := fun w => refWay_any qu true w hqb (by omega)
  rw [rway_path h1 h2] at W1
  rw [rway_query h3] at W2
  have q2 : ∃ (b2 : Bool) (Q : List Nat), Q.length ≤ 30001 ∧ (∀ w, Calls Tryz.prog 60 #[.string (strN qu), .bool true] w fun e w' => e = .returned (.tuple #[.string (strN Q), .bool b2]) ∧ Below w.heap.size w w') ∧ (∀ X : List Nat, (match way true qu.tail with | some y => some (X ++ (if qu = [] then [] else 63 :: y)) | none => none) = if b2 then some (X ++ Q) else none) := by
    cases hy : way true qu.tail with
    | none => rw [hy] at W2; exact ⟨false, [], by simp, W2, fun X => rfl⟩
    | some y =>
      rw [hy] at W2
      have := hwl qu.tail y hpt.2 hy
      exact ⟨true, _, by split <;> simp; omega, W2, fun X => rfl⟩
  obtain ⟨b2, Q, hQ, hW2, hX2⟩ := q2
  cases hp : way true pa.tail with
  | none =>
    rw [hp] at W1
    exact ⟨false, b2, true, [], Q, [], by simp, hQ, by simp, W1, hW2, by rw [eq_lit [] [] rfl (by simp) (by simp)]; rfl, (fun h => by cases h), (fun h => by cases h), fun X => rfl⟩
  | some p =>
    rw [hp] at W1
    dsimp only at W1
    obtain ⟨hb, hl⟩ := hwl pa.tail p hpt.1 hp
    have hD := fun w => refDots_any p w hb (by omega)
    have hDl := AddrMath.dots_len p
    have hXX : ∀ X : List Nat, (match some p, way true qu.tail with | some p, some y => some (X ++ (dots p ++ (if qu = [] then [] else 63 :: y))) | _, _ => none) = if true && b2 then some (X ++ (dots p ++ Q)) else none := by
      intro X
      have := hX2 (X ++ dots p)
      rw [List.append_assoc] at this
      rw [Bool.true_and, ← this]
      cases way true qu.tail with
      | none => rfl
      | some y => simp
    by_cases hpa : pa = []
    · have hp0 : p = [] := by
        rw [hpa] at hp
        exact (Option.some.inj hp).symm
      rw [if_pos hpa] at W1
      refine ⟨true, b2, true, [], Q, dots p, by simp, hQ, by omega, W1, hW2, by rw [eq_lit [] [] rfl (by simp) (by simp)]; rfl, ?_, (fun _ h => by cases h), hXX⟩
      intro _ _ w
      have := hD w
      rw [hp0] at this ⊢
      exact this
    · rw [if_neg hpa] at W1
      refine ⟨true, b2, false, 47 :: p, Q, dots p, by simp; omega, hQ, by omega, W1, hW2, ?_, (fun _ h => by cases h), (fun _ _ w => hD w), hXX⟩
      rw [eq_lit [] [] rfl (by intro c hc; rcases List.mem_cons.1 hc with h | h; omega; exact hb c h) (by simp)]
      simp
theorem comb_pack {sch h po pa qu D Q : List Nat} {b1 b2 : Bool} (hX : ∀ X : List Nat, (match way true pa.tail, way true qu.tail with | some p, some y => some (X ++ (dots p ++ (if qu = [] then [] else 63 :: y))) | _, _ => none) = if b1 && b2 then some (X ++ (D ++ Q)) else none) :
    combine sch h po pa qu = if isHost (lower h) && (po.isEmpty || isPort po.tail) then (if b1 && b2 then some (((sch ++ colon) ++ lower h) ++ (if po = [] ∨ po.tail = usual sch then [] else po) ++ (D ++ Q)) else none) else none := by
  rw [← hX]
  unfold combine
  cases way true pa.tail with
  | none => rfl
  | some p =>
    cases way true qu.tail with
    | none => rfl
    | some y => simp only [List.append_assoc]
theorem finish_false {x : Option (List Nat)} {b : Bool} {y : List Nat} (h : x = if b then some y else none) (hb : b = false) : finish x = ([], 25) := by
  rw [h, hb]; rfl
theorem finish_true {x : Option (List Nat)} {b1 b2 : Bool} {y z : List Nat} (h : x = if b1 && b2 then some y else none) (h1 : b1 = true) (h2 : b2 = true) (hz : z = y) : finish x = if z.length ≤ 200 then (z, 0) else ([], 23) := by
  rw [h, h1, h2, hz]; rfl
end Go.Proofs.YteockpllnhjooaaGreatDoor

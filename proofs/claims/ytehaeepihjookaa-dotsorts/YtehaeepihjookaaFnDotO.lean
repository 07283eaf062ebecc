/-
  Walks of dot.rises, dot.Put.
-/
import Derived.Test.YtehaeepihjookaaFnDotN
import Derived.Test.YtehaeepihjookaaFnDotM
import Derived.Test.YtehaeepihjookaaFnDotL
import Derived.Test.YtehaeepihjookaaFnDotE
namespace Go.Proofs.Ytehaeepihjookaa
open Go.RowKit NumMath
open DotMath (Dt)
set_option maxRecDepth 100000
set_option linter.unusedVariables false
set_option linter.unusedSimpArgs false

theorem rise_same {ds : List Dt} : sameD ds (DotMath.sort ds) = true ↔ DotMath.Rise ds := by
  rw [sameD_iff]
  constructor
  · intro h; rw [h]; exact DotMath.sort_rise ds
  · intro h; exact (DotMath.sort_of_rise h).symm
theorem put_big {ds : List Dt} (h : ¬ ds.length ≤ 16) : DotMath.put ds = [] := by
  unfold DotMath.put; rw [if_neg (fun e => h e.2)]
theorem put_down {ds : List Dt} (h : sameD ds (DotMath.sort ds) = false) : DotMath.put ds = [] := by
  unfold DotMath.put; rw [if_neg]
  rintro ⟨h1, _⟩
  rw [rise_same.2 ((DotMath.rises_iff ds).1 h1).2] at h
  cases h
theorem put_wrong {ds : List Dt} {k : Nat} (hk : k < ds.length) (h : DotMath.right (ds[k]?.getD DotMath.zero) = false) : DotMath.put ds = [] := by
  unfold DotMath.put; rw [if_neg]
  rintro ⟨h1, _⟩
  have := ((DotMath.rises_iff ds).1 h1).1 ds[k] (List.getElem_mem hk)
  have e : ds[k]?.getD DotMath.zero = ds[k] := by simp [hk]
  rw [e, this] at h; cases h
theorem put_good {ds : List Dt} (h16 : ds.length ≤ 16) (h : sameD ds (DotMath.sort ds) = true) (hr : ∀ j, j < ds.length → DotMath.right (ds[j]?.getD DotMath.zero) = true) : DotMath.put ds = D (ds.length : Int) ++ ds.flatMap DotMath.bytes := by
  unfold DotMath.put; rw [if_pos]
  refine ⟨(DotMath.rises_iff ds).2 ⟨fun d hd => ?_, rise_same.1 h⟩, h16⟩
  obtain ⟨i, hi, rfl⟩ := List.getElem_of_mem hd
  have := hr i hi
  simpa [hi] using this

set_option maxHeartbeats 4000000 in
theorem dotRises_any (a : Option Addr) (ds : List Dt) (cap : Nat) (w : World) (hr : DRow w a ds) (hc : ds.length ≤ cap) (hm : cap ≤ maxLen) (hlim : ds.length ≤ 4000000000000) :
    Calls Try.prog 33 #[.slice a ds.length cap] w fun e w' => e = .returned (.bool (sameD ds (DotMath.sort ds))) ∧ Below w.heap.size w w' := by
  have HS : Hid _ := dotSort_own a ds cap w hr hc hm hlim
  have HE : Hid (∀ v w', DOwn w' w.heap.size v (DotMath.sort ds) → Below w.heap.size w w' → Calls Try.prog 42 #[.slice a ds.length cap, v] w' fun e w'' => e = .returned (.bool (sameD ds (DotMath.sort ds))) ∧ Below w'.heap.size w' w'') := fun v w' hO hB => by
    obtain ⟨ao, c, rfl, hrow, hac, hcm, _⟩ := hO.dots
    exact equalDots_any a ao cap c ds (DotMath.sort ds) w' (hr.later hB) hrow hc hac hm hcm
  generalize sameD ds (DotMath.sort ds) = b at *
  generalize ds.length = n at *
  clear hr hc hm hlim
  go_enter Try.func33, Try.ntmps33
  go_wp2_with fail
  refine Calls.mono HS.out ?_
  rintro e w1 ⟨v, rfl, hown, hb1⟩
  have HE1 : Hid _ := HE.out v w1 hown hb1
  have HB1 : Hid _ := hb1
  clear hown hb1 HE HS
  go_wp2_with fail
  refine Calls.mono HE1.out ?_
  rintro e w2 ⟨rfl, hb2⟩
  have HB2 : Hid _ := HB1.out.trans (hb2.mono HB1.out.size)
  clear hb2
  go_wp2
  go_ret
  exact ⟨rfl, HB2.out⟩

set_option maxHeartbeats 8000000 in
theorem dotPut_all (a : Option Addr) (ds : List Dt) (cap : Nat) (w : World) (hr : DRow w a ds) (hc : ds.length ≤ cap) (hm : cap ≤ maxLen) :
    Calls Try.prog 22 #[.slice a ds.length cap] w fun e w' => ∃ v, e = .returned v ∧ Bytes w' v (DotMath.put ds) ∧ Below w.heap.size w w' := by
  by_cases h16 : ds.length ≤ 16
  rotate_left 1
  · have HQ : Hid (DotMath.put ds = []) := put_big h16
    rw [HQ.out]
    generalize ds.length = n at *
    have h16' : decide ((16 : Int) < (n : Int)) = true := by simp; omega
    clear hr
    go_enter Try.func22, Try.ntmps22
    go_wp2
    go_ret
    exact ⟨_, rfl, bytes_none _, Below.refl _ _⟩
  have HRi : Hid _ := dotRises_any a ds cap w hr hc hm (by omega)
  unfold maxLen at hm
  have h16' : decide ((16 : Int) < (ds.length : Int)) = false := by simp; omega
  cases hq : sameD ds (DotMath.sort ds) with
  | false =>
    rw [hq] at HRi
    have HQ : Hid (DotMath.put ds = []) := put_down hq
    rw [HQ.out]
    generalize ds.length = n at *
    clear hr hq
    go_enter Try.func22, Try.ntmps22
    go_wp2_with fail
    refine Calls.mono HRi.out ?_
    rintro e w1 ⟨rfl, hb1⟩
    have HB1 : Hid _ := hb1
    clear hb1
    go_wp2
    go_ret
    exact ⟨_, rfl, bytes_none _, HB1.out⟩
  | true =>
    rw [hq] at HRi
    have HGood : Hid ((∀ j, j < ds.length → DotMath.right (ds[j]?.getD DotMath.zero) = true) → DotMath.put ds = D (ds.length : Int) ++ ds.flatMap DotMath.bytes) := put_good h16 hq
    have HWrong : Hid (∀ k, k < ds.length → DotMath.right (ds[k]?.getD DotMath.zero) = false → DotMath.put ds = []) := fun k hk h => put_wrong hk h
    have HBb : Hid (∀ c ∈ DotMath.put ds, 0 ≤ c ∧ c ≤ 255) := DotMath.put_byte ds
    have HP : Hid (∀ w, Calls Try.prog 30 #[.slice none 0 0, .slice (some ⟨w.heap.size, 0, none⟩) 1 1] (w.alloc (.cells #[.int .u64 (ds.length : Int)] 38)) fun e w' => ∃ v, e = .returned v ∧ BOwn w' w.heap.size v (D (ds.length : Int)) ∧ Below w.heap.size w w') := fun w => by
      have hb1 : Below w.heap.size w (w.alloc (.cells #[.int .u64 (ds.length : Int)] 38)) := (Below.refl _ _).alloc (Nat.le_refl _) _
      refine (put_any none (some ⟨w.heap.size, 0, none⟩) [] [(ds.length : Int)] 0 1 _ (.inl rfl) (by simp) (by decide) (by simp) (lit_row w .u64 [(ds.length : Int)] 38 _ rfl) (by simp; omega) (by simp) (by decide) (by simp)).mono ?_
      rintro e w' ⟨rfl, hown, hbl⟩
      have e : ([] : List Int) ++ List.flatMap D [(ds.length : Int)] = D (ds.length : Int) := by simp
      rw [e] at hown ⊢
      exact ⟨_, rfl, ⟨own_low hown (by simp)⟩, hb1.trans (hbl.mono hb1.size)⟩
    have HC : Hid (∀ k, k < ds.length → ∀ w', Below w.heap.size w w' → ∃ b off, a = some ⟨b, off, none⟩ ∧ w'.cell? ⟨b, off + k * 2, none⟩ = some (.int .i64 (ds[k]?.getD DotMath.zero).r) ∧ w'.cell? ⟨b, off + k * 2 + 1, none⟩ = some (.int .i64 (ds[k]?.getD DotMath.zero).s)) := fun k hk w' hB => by
      obtain ⟨b, off, ha, _⟩ := (hr.later hB).at (by omega)
      subst ha
      exact ⟨b, off, rfl, DRow.cells (hr.later hB) hk⟩
    have HF : Hid (∀ k, (k < ds.length → D (ds.length : Int) ++ (ds.take (k + 1)).flatMap DotMath.bytes = (D (ds.length : Int) ++ (ds.take k).flatMap DotMath.bytes) ++ DotMath.bytes (ds[k]?.getD DotMath.zero)) ∧ (D (ds.length : Int) ++ (ds.take k).flatMap DotMath.bytes).length ≤ 10 + 11 * k) := fun k => by
      refine ⟨fun hk => ?_, ?_⟩
      · rw [List.take_succ_eq_append_getElem hk, List.flatMap_append]
        simp [hk]
      · have := D_len (ds.length : Int); have := DotMath.flat_len (ds.take k)
        rw [List.length_append]; simp at this ⊢; omega
    have HT : Hid (ds.take ds.length = ds) := List.take_of_length_le (Nat.le_refl _)
    have HZ : Hid (D (ds.length : Int) = D (ds.length : Int) ++ (ds.take 0).flatMap DotMath.bytes) := by show _ = _; simp
    obtain ⟨n, hn⟩ : ∃ n, n = ds.length := ⟨_, rfl⟩
    rw [← hn] at hc HRi HP HC HF HGood HWrong HT HZ h16 h16' ⊢
    have e1 : IntKind.u64.wrap (n : Int) = (n : Int) := by rw [IntKind.wrap_u64]; omega
    clear hn hq hr
    go_enter Try.func22, Try.ntmps22
    go_wp2_with fail
    refine Calls.mono HRi.out ?_
    rintro e w1 ⟨rfl, hb1⟩
    have HB1 : Hid _ := hb1
    clear hb1
    go_wp2_with fail
    refine Calls.mono (HP.out _) ?_
    rintro e w2 ⟨v, rfl, hown, hb2⟩
    have HB2 : Hid _ := HB1.out.trans (hb2.mono HB1.out.size)
    have HO2 : Hid (BOwn w2 w.heap.size v (D (n : Int) ++ (ds.take 0).flatMap DotMath.bytes)) := by rw [← HZ.out]; exact ⟨own_low hown.own HB1.out.size⟩
    clear hown hb2 HB1 HP HZ HRi
    go_wp2_with fail
    go_loopw [3, 21] (fun v i wr => ∃ k : Nat, k ≤ n ∧ i = .int .i64 k ∧ Hid (∀ j, j < k → DotMath.right (ds[j]?.getD DotMath.zero) = true) ∧ BOwn wr w.heap.size v (D (n : Int) ++ (ds.take k).flatMap DotMath.bytes) ∧ Below w.heap.size w wr) (fun _ i _ => n - (intOf i).toNat)
    case atStart => exact ⟨0, by omega, rfl, fun j hj => by omega, HO2.out, HB2.out⟩
    case round =>
      obtain ⟨k, hk, rfl, HRt, hO, hB⟩ := hrel
      have HB : Hid (Below w.heap.size w wr) := hB
      have HO : Hid (BOwn wr w.heap.size _ (D (n : Int) ++ (ds.take k).flatMap DotMath.bytes)) := hO
      clear hB hO HO2 HB2
      by_cases hkn : k < n
      · have hki : (k : Int) < (n : Int) := by omega
        have hkc : (k : Int) < (cap : Int) := by omega
        obtain ⟨b, off, rfl, p0, p1⟩ := HC.out k hkn wr HB.out
        have HX : Hid _ := (HF.out k).1 hkn
        have hlx := (HF.out k).2
        have HDb : Hid (∀ w, _) := fun w => dotBytes_any (ds[k]?.getD DotMath.zero) w
        have HDr : Hid (∀ w, _) := fun w => dotRight_any (ds[k]?.getD DotMath.zero) w
        have HRn : Hid (DotMath.right (ds[k]?.getD DotMath.zero) = true → ∀ j, j < k + 1 → DotMath.right (ds[j]?.getD DotMath.zero) = true) := fun h j hj => by
          by_cases e : j = k
          · rw [e]; exact h
          · exact HRt.out j (by omega)
        have HWk : Hid (DotMath.right (ds[k]?.getD DotMath.zero) = false → DotMath.put ds = []) := HWrong.out k hkn
        have hdl := DotMath.bytes_len (ds[k]?.getD DotMath.zero)
        unfold dtV at HDb HDr
        generalize ds[k]?.getD DotMath.zero = d at *
        generalize D (n : Int) ++ (ds.take k).flatMap DotMath.bytes = zs at *
        have HXn : Hid (DtAt (wr.alloc (.cells #[.int .i64 0, .int .i64 0] 23)) wr.heap.size DotMath.zero) := DtAt.new wr DotMath.zero rfl
        have HX1 : Hid (DtAt ((wr.alloc (.cells #[.int .i64 0, .int .i64 0] 23)).setRow wr.heap.size (dtL d).toArray) wr.heap.size d) := DtAt.row HXn.out
        have hl : Below wr.heap.size wr ((wr.alloc (.cells #[.int .i64 0, .int .i64 0] 23)).setRow wr.heap.size (dtL d).toArray) := below_setRow ((Below.refl _ _).alloc (Nat.le_refl _) _) (Nat.le_refl _) _
        have HO1 : Hid _ := HO.out.later hl
        have HB1 : Hid _ := HB.out.trans (hl.mono HB.out.size)
        clear hl
        go_upto_region 7 with (refine wpList_store_dt rfl (.tmp 5) (.tmp 24) rfl wr.heap.size DotMath.zero d rfl rfl HXn.out ?_)
        clear HXn HO HB p0 p1
        generalize (wr.alloc (.cells #[.int .i64 0, .int .i64 0] 23)).setRow wr.heap.size (dtL d).toArray = w3 at *
        generalize wr.heap.size = g at *
        obtain ⟨x0, x1⟩ := HX1.out.cells
        cases hrd : DotMath.right d with
        | false =>
          have HQ : Hid _ := HWk.out hrd
          rw [hrd] at HDr
          clear hrd
          go_wp2_with fail
          refine Calls.mono (HDr.out _) ?_
          rintro e w4 ⟨rfl, hb4⟩
          have HB4 : Hid _ := HB1.out.trans (hb4.mono HB1.out.size)
          clear hb4
          go_wp2
          go_ret
          exact ⟨_, rfl, by rw [HQ.out]; exact bytes_none _, HB4.out⟩
        | true =>
          have HR2 : Hid _ := HRn.out hrd
          rw [hrd] at HDr
          clear hrd HRn HWk
          go_wp2_with fail
          refine Calls.mono (HDr.out _) ?_
          rintro e w4 ⟨rfl, hb4⟩
          have HX4 : Hid _ := HX1.out.later hb4 HX1.out.lt
          have HO4 : Hid _ := HO1.out.later hb4
          have HB4 : Hid _ := HB1.out.trans (hb4.mono HB1.out.size)
          clear hb4 x0 x1 HX1 HO1 HB1 HDr
          obtain ⟨x0, x1⟩ := HX4.out.cells
          go_wp2_with fail
          refine Calls.mono (HDb.out _) ?_
          rintro e w5 ⟨y, rfl, hy, hb5⟩
          have HY : Hid _ := hy
          have HO5 : Hid _ := HO4.out.later hb5
          have HB5 : Hid _ := HB4.out.trans (hb5.mono HB4.out.size)
          clear hy hb5 HO4 HB4 HX4 x0 x1 HDb
          go_wp2_with (at_builtin; refine wpList_app_bytes rfl _ _ rfl w.heap.size _ zs rfl HO5.out y (DotMath.bytes d) rfl HY.out (by omega) HB5.out.size ?_; intro v6 w6 hown6 hgrow6)
          have HO6 : Hid (BOwn w6 w.heap.size v6 (D (n : Int) ++ (ds.take (k + 1)).flatMap DotMath.bytes)) := by rw [HX.out]; exact hown6
          have HB6 : Hid (Below w.heap.size w w6) := HB5.out.grown hgrow6 HB5.out.size HO5.out.ge
          clear hown6 hgrow6
          go_wp2
          go_roundw
          case rel => exact ⟨k + 1, by omega, by go_num, HR2, HO6.out, HB6.out⟩
          case measure => simp [intOf]; omega
      · have hkk : k = n := by omega
        have hdk : decide ((k : Int) < (n : Int)) = false := by simp; omega
        have HO5 := HO.out
        rw [hkk, HT.out, ← HGood.out (fun j hj => HRt.out j (by omega))] at HO5
        have HO6 : Hid _ := own_bytes HO5.own HBb.out
        clear HO HO5
        go_wp2
        go_ret
        exact ⟨_, rfl, HO6.out, HB.out⟩
end Go.Proofs.Ytehaeepihjookaa

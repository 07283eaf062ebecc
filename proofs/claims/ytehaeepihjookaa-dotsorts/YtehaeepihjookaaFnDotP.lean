/-
  Walk of dot.TakeAll.
-/
import Derived.Test.YtehaeepihjookaaFnDotF
import Derived.Test.YtehaeepihjookaaFnDotL
namespace Go.Proofs.Ytehaeepihjookaa
open Go.RowKit NumMath
open DotMath (Dt)
set_option maxRecDepth 100000
set_option linter.unusedVariables false
set_option linter.unusedSimpArgs false

theorem less_zero {d : Dt} (h : DotMath.right d = true) : DotMath.less DotMath.zero d = true := by
  have := DotMath.right_iff.1 h
  rw [DotMath.less_iff]
  unfold DotMath.zero
  simp only []
  omega
/-- The dot ahead: of none, zero. -/
def lastD (acc : List Dt) : Dt := acc.getLast?.getD DotMath.zero
theorem lastD_snoc (acc : List Dt) (d : Dt) : lastD (acc ++ [d]) = d := by simp [lastD]
theorem lastD_nil : lastD [] = DotMath.zero := rfl
theorem go_last (acc : List Dt) (d : Dt) (h : DotMath.right d = true) {A B : List Dt × Int × Int} : (if acc ≠ [] ∧ DotMath.less (acc.getLast?.getD DotMath.zero) d = false then A else B) = if DotMath.less (lastD acc) d = false then A else B := by
  by_cases e : acc = []
  · subst e
    rw [if_neg (by simp), if_neg (by rw [lastD_nil, less_zero h]; simp)]
  · by_cases e2 : DotMath.less (lastD acc) d = false
    · rw [if_pos ⟨e, e2⟩, if_pos e2]
    · rw [if_neg (fun h => e2 h.2), if_neg e2]
theorem DtAt.grown {w w' : World} {g : Nat} {s : Dt} {r : Option Nat} (h : DtAt w g s) (hg : w.grownBy w' r) (hr : some g ≠ r) : DtAt w' g s := ⟨by
  have := hg.block g h.lt hr
  unfold Arr
  rw [this]; exact h.arr⟩
theorem DOwn.row_other {w : World} {base g : Nat} {v : Value} {ds : List Dt} (h : DOwn w base v ds) (cs : Array Value) (hg : g < base) : DOwn (w.setRow g cs) base v ds := by
  refine ⟨h.own.1, ?_⟩
  rcases h.own.2 with h2 | ⟨g', cap, cur, h2, h3, h4, h5⟩
  · exact .inl h2
  · refine .inr ⟨g', cap, cur, h2, h3, ?_, h5⟩
    rw [setRow_other w g g' cs (by omega)]; exact h4

set_option maxHeartbeats 16000000 in
theorem dotTakeAll_any (a : Option Addr) (zs : List Int) (cap : Nat) (w : World) (hr : Row .u8 w a zs) (hb : ∀ c ∈ zs, 0 ≤ c ∧ c ≤ 255) (hc : zs.length ≤ cap) (hm : cap ≤ maxLen) :
    Calls Try.prog 24 #[.slice a zs.length cap] w fun e w' => ∃ v, e = .returned (.tuple #[v, .int .i64 (DotMath.all zs).2.1, .int .i64 (DotMath.all zs).2.2]) ∧ Dots w' v (DotMath.all zs).1 ∧ Below w.heap.size w w' := by
  have HT : Hid _ := take_any a zs cap w hr hb hc hm
  unfold takV at HT
  unfold maxLen at hm
  rcases tak_cases zs hb with h | h | ⟨k0, v, hk, hkl, hv0, hv1, h, hD⟩
  · have HQ : Hid (DotMath.all zs = ([], 0, 20)) := by show _ = _; unfold DotMath.all; rw [h]; rfl
    rw [h] at HT
    rw [HQ.out]
    generalize zs.length = n at *
    clear hr h hb
    go_enter Try.func24, Try.ntmps24
    go_wp2_with fail
    refine Calls.mono HT.out ?_
    rintro e w1 ⟨rfl, rfl⟩
    go_wp2
    go_ret3
    exact ⟨_, rfl, Dots.nil _, Below.refl _ _⟩
  · have HQ : Hid (DotMath.all zs = ([], 0, 21)) := by show _ = _; unfold DotMath.all; rw [h]; rfl
    rw [h] at HT
    rw [HQ.out]
    generalize zs.length = n at *
    clear hr h hb
    go_enter Try.func24, Try.ntmps24
    go_wp2_with fail
    refine Calls.mono HT.out ?_
    rintro e w1 ⟨rfl, rfl⟩
    go_wp2
    go_ret3
    exact ⟨_, rfl, Dots.nil _, Below.refl _ _⟩
  by_cases hv : 16 < v
  · have HQ : Hid (DotMath.all zs = ([], 0, 21)) := by show _ = _; unfold DotMath.all; rw [h]; simp only []; rw [if_neg (by simp), if_pos hv]
    rw [h] at HT
    rw [HQ.out]
    generalize zs.length = n at *
    clear hr h hb hD
    go_enter Try.func24, Try.ntmps24
    go_wp2_with fail
    refine Calls.mono HT.out ?_
    rintro e w1 ⟨rfl, rfl⟩
    go_wp2
    go_ret3
    exact ⟨_, rfl, Dots.nil _, Below.refl _ _⟩
  obtain ⟨n, rfl⟩ : ∃ n : Nat, v = (n : Int) := ⟨v.toNat, by omega⟩
  have HG : Hid (DotMath.all zs = DotMath.go zs n [] (k0 + 1)) := by
    show _ = _
    unfold DotMath.all; rw [h]; simp only []
    rw [if_neg (by simp), if_neg hv]
    congr 1
  rw [h] at HT
  have hn16 : n ≤ 16 := by omega
  have hvi : (n : Int) ≤ 16 := by omega
  have e1 : IntKind.i64.wrap (n : Int) = (n : Int) := by rw [IntKind.wrap_i64]; omega
  obtain ⟨b, off, rfl⟩ : ∃ b off, a = some ⟨b, off, none⟩ := by
    rcases hr with hr | ⟨b, off, ha, _⟩
    · rw [hr] at hkl; simp at hkl
    · exact ⟨b, off, ha⟩
  obtain ⟨R, hR⟩ : ∃ R, R = DotMath.all zs := ⟨_, rfl⟩
  have HTk : Hid (∀ p, p ≤ zs.length → ∀ w', Below w.heap.size w w' → Calls Try.prog 20 #[.slice (if cap = p then some ⟨b, off, none⟩ else some ⟨b, off + p, none⟩) (zs.length - p) (cap - p)] w' fun e w'' => e = .returned (.tuple #[dtV (DotMath.take (zs.drop p)).1, .int .i64 (DotMath.take (zs.drop p)).2.1, .int .i64 (DotMath.take (zs.drop p)).2.2]) ∧ Below w'.heap.size w' w'') := fun p hp w' hB => by
    have := dotTake_any (if cap = p then some ⟨b, off, none⟩ else some ⟨b, off + p, none⟩) (zs.drop p) (cap - p) w' ((row_from hr p cap hp hc).later hB) (fun c hc => hb c (List.mem_of_mem_drop hc)) (by simp; omega) (by unfold maxLen; omega)
    rw [List.length_drop] at this
    exact this
  have HCs : Hid (∀ p, p ≤ zs.length → _) := fun p (hp : p ≤ zs.length) => DotMath.take_cases (zs.drop p) (fun c hc => hb c (List.mem_of_mem_drop hc))
  have HGo : Hid (∀ k acc p, _) := fun k acc p => go_succ zs k acc p
  have HCut : Hid (∀ p, p ≤ zs.length → ∀ w, _) := fun p hp w => cut_from (b := b) (off := off) (L := zs.length) (cap := cap) hp hc w
  have HLd : Hid (∀ p, (zs.drop p).length = zs.length - p) := fun p => by simp
  rw [← hR] at HG ⊢
  generalize zs.length = L at *
  clear hr h hb hD hR hv
  have HA0 : Hid (DtAt (w.alloc (.cells #[.int .i64 0, .int .i64 0] 23)) w.heap.size (lastD [])) := DtAt.new w DotMath.zero rfl
  have HB0 : Hid (Below w.heap.size w (w.alloc (.cells #[.int .i64 0, .int .i64 0] 23))) := (Below.refl _ _).alloc (Nat.le_refl _) _
  have HO0 : Hid (DOwn (w.alloc (.cells #[.int .i64 0, .int .i64 0] 23)) (w.heap.size + 1) (.slice none 0 0) []) := DOwn.nil _ _
  have HS0 : Hid (w.heap.size + 1 ≤ (w.alloc (.cells #[.int .i64 0, .int .i64 0] 23)).heap.size) := by show _ ≤ _; simp
  go_enter Try.func24, Try.ntmps24
  go_wp2_with fail
  refine Calls.mono HT.out ?_
  rintro e w1 ⟨rfl, hw⟩
  rw [hw]
  clear hw w1 HT
  go_upto_region 8 with (fail)
  generalize hw1 : w.alloc (.cells #[.int .i64 0, .int .i64 0] 23) = w1 at *
  clear hw1
  go_wp2_with fail
  go_loopw [6, 8, 25] (fun at_ v i wr => ∃ (k p : Nat) (acc : List Dt), k ≤ n ∧ p ≤ L ∧ i = .int .u64 k ∧ at_ = .int .i64 p ∧ acc.length = k ∧ DOwn wr (w.heap.size + 1) v acc ∧ DtAt wr w.heap.size (lastD acc) ∧ R = DotMath.go zs (n - k) acc p ∧ Below w.heap.size w wr ∧ w.heap.size + 1 ≤ wr.heap.size) (fun _ _ i _ => n - (intOf i).toNat)
  case atStart => exact ⟨0, k0 + 1, [], by omega, hkl, rfl, rfl, rfl, HO0.out, HA0.out, HG.out, HB0.out, HS0.out⟩
  case round =>
    obtain ⟨k, p, acc, hk, hp, rfl, rfl, hacc, hO, hA, hG, hB, hS⟩ := hrel
    clear HA0 HB0 HO0 HS0 HG
    have HB : Hid (Below w.heap.size w wr) := hB
    have HS : Hid (w.heap.size + 1 ≤ wr.heap.size) := hS
    have HR : Hid (R = DotMath.go zs (n - k) acc p) := hG
    have HO : Hid (DOwn wr (w.heap.size + 1) _ acc) := hO
    have HA : Hid (DtAt wr w.heap.size (lastD acc)) := hA
    have HAcc : Hid (acc.length = k) := hacc
    clear hO hG hB hA hacc hS
    by_cases hkn : k < n
    · have hki : (k : Int) < (n : Int) := by omega
      have ek : IntKind.u64.wrap ((k : Int) + 1) = (k : Int) + 1 := by rw [IntKind.wrap_u64]; omega
      have hcut := HCut.out p hp
      have HTp : Hid _ := HTk.out p hp _ HB.out
      have HRs : Hid _ := HGo.out (n - k - 1) acc p
      rw [show n - k - 1 + 1 = n - k by omega, ← HR.out] at HRs
      have hcs := HCs.out p hp
      have hld := HLd.out p
      generalize DotMath.take (zs.drop p) = T at *
      generalize (if cap = p then some (⟨b, off, none⟩ : Addr) else some ⟨b, off + p, none⟩) = ap at *
      unfold dtV at HTp
      have hpi : (p : Int) ≤ (L : Int) := by omega
      rcases hcs with rfl | rfl | ⟨m, d, hm2, hml, rfl, hrd, _⟩
      · have HQ : Hid (R = ([], 0, 20)) := by rw [HRs.out]; rfl
        go_wp2_with fail
        refine Calls.mono HTp.out ?_
        rintro e w2 ⟨rfl, hb2⟩
        have HXn : Hid (DtAt (w2.alloc (.cells #[.int .i64 0, .int .i64 0] 23)) w2.heap.size DotMath.zero) := DtAt.new w2 DotMath.zero rfl
        have HB2 : Hid (Below w.heap.size w ((w2.alloc (.cells #[.int .i64 0, .int .i64 0] 23)).setRow w2.heap.size (dtL DotMath.zero).toArray)) := by
          have h2 := HB.out.trans (hb2.mono HB.out.size)
          exact below_setRow (h2.alloc h2.size _) h2.size _
        clear hb2 hcut
        go_wp2_with (refine wpList_store_dt rfl (.tmp 10) (.tmp 32) rfl w2.heap.size DotMath.zero DotMath.zero rfl rfl HXn.out ?_)
        go_ret3
        exact ⟨_, by rw [HQ.out]; rfl, by rw [HQ.out]; exact Dots.nil _, HB2.out⟩
      · have HQ : Hid (R = ([], 0, 21)) := by rw [HRs.out]; rfl
        go_wp2_with fail
        refine Calls.mono HTp.out ?_
        rintro e w2 ⟨rfl, hb2⟩
        have HXn : Hid (DtAt (w2.alloc (.cells #[.int .i64 0, .int .i64 0] 23)) w2.heap.size DotMath.zero) := DtAt.new w2 DotMath.zero rfl
        have HB2 : Hid (Below w.heap.size w ((w2.alloc (.cells #[.int .i64 0, .int .i64 0] 23)).setRow w2.heap.size (dtL DotMath.zero).toArray)) := by
          have h2 := HB.out.trans (hb2.mono HB.out.size)
          exact below_setRow (h2.alloc h2.size _) h2.size _
        clear hb2 hcut
        go_wp2_with (refine wpList_store_dt rfl (.tmp 10) (.tmp 32) rfl w2.heap.size DotMath.zero DotMath.zero rfl rfl HXn.out ?_)
        go_ret3
        exact ⟨_, by rw [HQ.out]; rfl, by rw [HQ.out]; exact Dots.nil _, HB2.out⟩
      · rw [hld] at hml
        have HQ : Hid (R = if DotMath.less (lastD acc) d = false then ([], 0, 21) else DotMath.go zs (n - k - 1) (acc ++ [d]) (p + m)) := by
          show _ = _
          rw [HRs.out, ← go_last acc d hrd]; simp only []
          rw [if_neg (by simp)]
          congr 2
        have hpm : p + m ≤ L := by omega
        have HLs : Hid (∀ w, _) := fun w => dotLess_any (lastD acc) d w
        have epm : IntKind.i64.wrap ((p : Int) + (m : Int)) = ((p + m : Nat) : Int) := by rw [IntKind.wrap_i64]; omega
        have epm2 : wrap64 ((p : Int) + (m : Int)) = ((p + m : Nat) : Int) := by unfold wrap64; omega
        have HA9 : Hid ((acc ++ [d]).length = k + 1) := by show _ = _; rw [List.length_append, HAcc.out]; rfl
        have HL9 : Hid (lastD (acc ++ [d]) = d) := lastD_snoc acc d
        unfold dtV at HLs
        clear HRs hld hrd
        go_wp2_with fail
        refine Calls.mono HTp.out ?_
        rintro e w2 ⟨rfl, hb2⟩
        have HXn : Hid (DtAt (w2.alloc (.cells #[.int .i64 0, .int .i64 0] 23)) w2.heap.size DotMath.zero) := DtAt.new w2 DotMath.zero rfl
        have HX2 : Hid (DtAt ((w2.alloc (.cells #[.int .i64 0, .int .i64 0] 23)).setRow w2.heap.size (dtL d).toArray) w2.heap.size d) := DtAt.row HXn.out
        have HBs : Hid (Below wr.heap.size wr ((w2.alloc (.cells #[.int .i64 0, .int .i64 0] 23)).setRow w2.heap.size (dtL d).toArray)) := below_setRow (hb2.alloc hb2.size _) hb2.size _
        have HB2 : Hid (Below w.heap.size w ((w2.alloc (.cells #[.int .i64 0, .int .i64 0] 23)).setRow w2.heap.size (dtL d).toArray)) := HB.out.trans (HBs.out.mono HB.out.size)
        have HO2 : Hid _ := HO.out.later HBs.out
        have HA2 : Hid _ := HA.out.later HBs.out HA.out.lt
        have HS2 : Hid _ := Nat.le_trans HS.out HBs.out.size
        have HNe : Hid (∀ j, u8.ownBlock = some j → j ≠ w2.heap.size) := fun j hj e => by have h1 := (HO.out.lt j hj).2; have h2 := hb2.size; omega
        clear hb2 hcut HTp HO HB HBs HA HS
        go_upto_region 11 with (refine wpList_store_dt rfl (.tmp 10) (.tmp 32) rfl w2.heap.size DotMath.zero d rfl rfl HXn.out ?_)
        clear HXn
        generalize (w2.alloc (.cells #[.int .i64 0, .int .i64 0] 23)).setRow w2.heap.size (dtL d).toArray = w3 at *
        generalize w2.heap.size = g at *
        obtain ⟨x0, x1⟩ := HX2.out.cells
        obtain ⟨y0, y1⟩ := HA2.out.cells
        generalize lastD acc = la at *
        cases hl : DotMath.less la d with
        | false =>
          have HQ2 : Hid (R = ([], 0, 21)) := by show _ = _; rw [HQ.out, if_pos hl]
          rw [hl] at HLs
          clear HQ
          go_wp2_with fail
          refine Calls.mono (HLs.out _) ?_
          rintro e w4 ⟨rfl, hb4⟩
          have HB4 : Hid _ := HB2.out.trans (hb4.mono HB2.out.size)
          clear hb4
          go_wp2
          go_ret3
          exact ⟨_, by rw [HQ2.out]; rfl, by rw [HQ2.out]; exact Dots.nil _, HB4.out⟩
        | true =>
          have HQ2 : Hid (R = DotMath.go zs (n - (k + 1)) (acc ++ [d]) (p + m)) := by show _ = _; rw [HQ.out, if_neg (by rw [hl]; simp), Nat.sub_sub]
          rw [hl] at HLs
          clear HQ hl
          go_wp2_with fail
          refine Calls.mono (HLs.out _) ?_
          rintro e w4 ⟨rfl, hb4⟩
          have HX4 : Hid _ := HX2.out.later hb4 HX2.out.lt
          have HA4 : Hid _ := HA2.out.later hb4 HA2.out.lt
          have HO4 : Hid _ := HO2.out.later hb4
          have HB4 : Hid _ := HB2.out.trans (hb4.mono HB2.out.size)
          have HS4 : Hid _ := Nat.le_trans HS2.out hb4.size
          clear hb4 x0 x1 y0 y1 HX2 HA2 HO2 HB2 HS2 HLs
          obtain ⟨x0, x1⟩ := HX4.out.cells
          have hbl : Below w4.heap.size w4 (w4.alloc (.cells (flatD [d]).toArray 23)) := (Below.refl _ _).alloc (Nat.le_refl _) _
          have HR5 : Hid (DRow (w4.alloc (.cells (flatD [d]).toArray 23)) (some ⟨w4.heap.size, 0, none⟩) [d]) := lit_dots w4 [d] rfl
          have HX5 : Hid _ := HX4.out.later hbl HX4.out.lt
          have HA5 : Hid _ := HA4.out.later hbl HA4.out.lt
          have HO5 : Hid _ := HO4.out.later hbl
          have HB5 : Hid _ := HB4.out.trans (hbl.mono HB4.out.size)
          have HS5 : Hid _ := Nat.le_trans HS4.out hbl.size
          clear hbl
          go_upto_region 16 with (at_builtin; refine wpList_app_dots rfl _ _ rfl (w.heap.size + 1) _ acc rfl HO5.out (some ⟨w4.heap.size, 0, none⟩) 1 [d] 1 rfl rfl HR5.out (by simp) (by omega) (by have := HAcc.out; simp; omega) HS5.out ?_; intro v6 w6 hown6 hgrow6)
          have hb6 : Below (w.heap.size + 1) (w4.alloc (.cells (flatD [d]).toArray 23)) w6 := (Below.refl _ _).grown hgrow6 HS5.out (fun q hq => (HO5.out.lt q hq).1)
          have HX6 : Hid (DtAt w6 g d) := HX5.out.grown hgrow6 (fun e => HNe.out g e.symm rfl)
          have HA6 : Hid (DtAt w6 w.heap.size la) := HA5.out.later hb6 (Nat.lt_succ_self _)
          have HO6 : Hid (DOwn w6 (w.heap.size + 1) v6 (acc ++ [d])) := hown6
          have HB6 : Hid (Below w.heap.size w w6) := HB5.out.trans (hb6.mono (Nat.le_succ _))
          have HS6 : Hid (w.heap.size + 1 ≤ w6.heap.size) := Nat.le_trans HS5.out hgrow6.size
          clear hb6 hown6 hgrow6 x0 x1 HX5 HA5 HO5 HB5 HS5 HR5 HX4 HA4 HO4 HB4 HS4 HNe
          obtain ⟨x0, x1⟩ := HX6.out.cells
          have HA7 : Hid (DtAt (w6.setRow w.heap.size (dtL d).toArray) w.heap.size d) := DtAt.row HA6.out
          have HO7 : Hid (DOwn (w6.setRow w.heap.size (dtL d).toArray) (w.heap.size + 1) v6 (acc ++ [d])) := DOwn.row_other HO6.out _ (Nat.lt_succ_self _)
          have HB7 : Hid (Below w.heap.size w (w6.setRow w.heap.size (dtL d).toArray)) := below_setRow HB6.out (Nat.le_refl _) _
          have HS7 : Hid (w.heap.size + 1 ≤ (w6.setRow w.heap.size (dtL d).toArray).heap.size) := by show _ ≤ _; have := HS6.out; simpa [World.setRow] using this
          go_wp2_with (refine wpList_store_dt rfl (.tmp 9) (.tmp 46) rfl w.heap.size la d rfl rfl HA6.out ?_)
          clear x0 x1 HA6 HO6 HB6 HS6 HX6
          generalize w6.setRow w.heap.size (dtL d).toArray = w7 at *
          go_roundw
          case rel => exact ⟨k + 1, p + m, acc ++ [d], by omega, hpm, by go_num, by first | rfl | (rw [epm]), HA9.out, HO7.out, by rw [HL9.out]; exact HA7.out, HQ2.out, HB7.out, HS7.out⟩
          case measure => simp [intOf]; omega
    · have hkk : k = n := by omega
      have hdk : decide ((k : Int) < (n : Int)) = false := by simp; omega
      have HQ : Hid (R = (acc, (p : Int), 0)) := by rw [HR.out, show n - k = 0 by omega]; rfl
      have HDs : Hid _ := HO.out.dots
      go_wp2
      go_ret3
      exact ⟨_, by rw [HQ.out]; rfl, by rw [HQ.out]; exact HDs.out, HB.out⟩
end Go.Proofs.Ytehaeepihjookaa

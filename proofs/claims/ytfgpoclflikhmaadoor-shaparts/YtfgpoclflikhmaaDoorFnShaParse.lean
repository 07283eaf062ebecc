/-
  Walks of sha.Parse and newsreelref1.IdParse, newsreelref1.digit.
-/
import Derived.Test.YtfgpoclflikhmaaDoorTextKit
import Derived.Test.YtfgpoclflikhmaaDoorFnShaSum
namespace Go.Proofs.YtfgpoclflikhmaaDoor
open Go.RowKit NumMath
set_option maxRecDepth 100000
set_option linter.unusedVariables false
set_option linter.unusedSimpArgs false
attribute [-simp] Tryd.isAgg49 Tryd.zeroValue49 Tryd.isAgg26 Tryd.zeroValue26

theorem ret_arr2 {fn : Func} {R : Ending → World → Prop} {a : Act} {w : World} {p u : Tmp} {ty : TypeId} (g t : Nat) (l : List Value) (d : TypeDesc) (v : Value) (h : fn.results = #[.cell p ty, .tmp u]) (hp : a.tmps.getD p undef = .pointer (some ⟨g, 0, none⟩)) (hu2 : a.tmps.getD u undef = v) (hA : Arr w g t l)
    (hu : Tryd.prog.underlying ty = some d) (hd : d.isRow = true) (hi : (Tryd.prog.info? ty).map (·.size) = some l.length) (hdf : a.defers = []) (hR : R (.returned (.tuple #[.agg l.toArray, v])) w) : bodyPost Tryd.prog fn R .ret a w := by
  refine bodyPost_ret (v := .tuple #[.agg l.toArray, v]) ?_ hdf hR
  rw [results_cell_tmp h, hp, hu2]
  simp [asAddr, Result.andThen, Arr.load hA d hu hd hi]
theorem or4 (p d : Nat) (hp : p < 16) (hd : d < 16) : bits .or .u8 ((p : Int) * 16) (d : Int) = ((p * 16 + d : Nat) : Int) := by
  rw [show (p : Int) * 16 = ((p * 16 : Nat) : Int) by simp, u8_or_nat _ _ (by omega) (by omega)]
  have := Nat.two_pow_add_eq_or_of_lt (i := 4) (by omega : d < 2 ^ 4) p
  rw [Nat.mul_comm p 16]
  exact congrArg _ this.symm
theorem all_take {l : List Nat} {k : Nat} (h : ∀ i, i < k → ShaMath.hexv (l[i]?.getD 0) < 16) (hk : ShaMath.hexv (l[k]?.getD 0) < 16) : ∀ i, i < k + 1 → ShaMath.hexv (l[i]?.getD 0) < 16 := by
  intro i hi
  rcases (by omega : i < k ∨ i = k) with h1 | h1
  · exact h i h1
  · rw [h1]; exact hk
theorem ok_of {l : List Nat} (hl : l.length = 64) (h : ∀ i, i < 64 → ShaMath.hexv (l[i]?.getD 0) < 16) : ShaMath.okHex l = true := by
  simp only [ShaMath.okHex, Bool.and_eq_true, decide_eq_true_eq, List.all_eq_true]
  refine ⟨hl, fun c hc => ?_⟩
  obtain ⟨i, hi, rfl⟩ := List.getElem_of_mem hc
  have := h i (by omega)
  simpa [hi] using this
theorem not_ok_of {l : List Nat} (k : Nat) (hk : k < l.length) (h : ¬ ShaMath.hexv (l[k]?.getD 0) < 16) : ShaMath.okHex l = false := by
  cases hb : ShaMath.okHex l with
  | false => rfl
  | true =>
    simp only [ShaMath.okHex, Bool.and_eq_true, decide_eq_true_eq, List.all_eq_true] at hb
    exact absurd (by have := hb.2 l[k] (List.getElem_mem hk); simpa [hk] using this) h
theorem parse_no {l : List Nat} (h : ShaMath.okHex l = false) : ShaMath.parseX l = List.replicate 32 0 := by unfold ShaMath.parseX; rw [h]; rfl
theorem parse_yes {l : List Nat} (h : ShaMath.okHex l = true) : ShaMath.parseX l = ShaMath.nibAt (l.map ShaMath.hexv) 64 := by unfold ShaMath.parseX; rw [if_pos h]
theorem len_no {l : List Nat} (h : l.length ≠ 64) : ShaMath.okHex l = false := by simp [ShaMath.okHex, h]
theorem nibs_lt {l : List Nat} {k : Nat} (h : ∀ i, i < k → ShaMath.hexv (l[i]?.getD 0) < 16) (hk : k ≤ l.length) : ∀ c ∈ (l.map ShaMath.hexv).take k, c < 16 := by
  intro c hc
  obtain ⟨i, hi, rfl⟩ := List.getElem_of_mem hc
  have hi' : i < k := by simp at hi; omega
  have hil : i < l.length := by omega
  have := h i hi'
  simpa [hil] using this
theorem nib_small {l : List Nat} {k : Nat} (h : ∀ i, i < k → ShaMath.hexv (l[i]?.getD 0) < 16) (hk : k < l.length) : ShaMath.nib ((l.map ShaMath.hexv).take k) (k / 2) < 16 := by
  have e : (l.map ShaMath.hexv).take k = (((l.map ShaMath.hexv).take k) ++ [0]).take k := by
    rw [List.take_append_of_le_length (by simp; omega), List.take_take, Nat.min_self]
  rw [e]
  refine ShaMath.nib_part _ k (by simp; omega) ?_
  intro c hc
  rcases List.mem_append.1 hc with h1 | h1
  · exact nibs_lt h (by omega) c h1
  · simp at h1; omega

set_option maxHeartbeats 2000000 in
theorem parse_any (l : List Nat) (w : World) (hb : ∀ c ∈ l, c < 256) (hm : l.length ≤ maxLen) :
    Calls Tryd.prog 16 #[.string (strN l)] w fun e w' => e = .returned (.tuple #[.agg (u8v (ShaMath.parseX l)).toArray, .bool (ShaMath.okHex l)]) ∧ Below w.heap.size w w' := by
  unfold maxLen at hm
  obtain ⟨z26, i26⟩ := zero_of_info zero26
  obtain ⟨Z, hZ⟩ : ∃ Z, Z = u8v (List.replicate 32 0) := ⟨_, rfl⟩
  rw [← hZ] at z26
  have HZ : Hid (Z = u8v (List.replicate 32 0)) := hZ
  have HZl : Hid (Z.length = 32) := by show _ = _; rw [hZ, u8v_len]; simp
  have HZo : Hid (∀ v ∈ Z, v.oneCell' = true) := by show ∀ v ∈ Z, _; rw [hZ]; exact u8v_one _
  have HBu : Hid (Tryd.prog.built 26 [] = some Z.toArray) := by show _ = _; rw [hZ]; kernel_rfl
  have hsz := strN_size l
  obtain ⟨L, hL⟩ : ∃ L, L = l.length := ⟨_, rfl⟩
  have HL : Hid (L = l.length) := hL
  rw [← hL] at hsz hm
  have HA : Hid (Arr (w.alloc (Obj.cells Z.toArray 26)) w.heap.size 26 Z) := Arr.new w 26 Z rfl
  have HBl : Hid (Below w.heap.size w (w.alloc (Obj.cells Z.toArray 26))) := (Below.refl _ _).alloc (Nat.le_refl _) _
  clear hZ i26 hL
  by_cases h64 : L = 64
  · have H64 : Hid (L = 64) := h64
    subst h64
    go_enter Tryd.func16, Tryd.ntmps16
    have HA4 : Hid (Arr ((w.alloc (Obj.cells Z.toArray 26)).alloc (Obj.cells Z.toArray 26)) (w.heap.size + 1) 26 (u8v (ShaMath.nibAt (l.map ShaMath.hexv) 0))) := by
      rw [ShaMath.nibAt_zero, ← HZ.out]; exact Arr.new _ 26 Z (by simp)
    have HA2 : Hid (Arr ((w.alloc (Obj.cells Z.toArray 26)).alloc (Obj.cells Z.toArray 26)) w.heap.size 26 Z) := Arr.alloc HA.out _
    have HB2 : Hid (Below w.heap.size w ((w.alloc (Obj.cells Z.toArray 26)).alloc (Obj.cells Z.toArray 26))) := HBl.out.alloc HBl.out.size _
    go_wp2_with fail
    generalize ((w.alloc (Obj.cells Z.toArray 26)).alloc (Obj.cells Z.toArray 26)) = w1 at *
    obtain ⟨g4, hg4⟩ : ∃ g, g = w.heap.size + 1 := ⟨_, rfl⟩
    have hg4' : w.heap.size + 1 ≤ g4 := by omega
    rw [← hg4] at HA4 ⊢
    clear hg4 HA HBl
    go_loopw [13] (fun i wr => ∃ k : Nat, k ≤ 64 ∧ i = .int .i64 k ∧ (∀ i, i < k → ShaMath.hexv (l[i]?.getD 0) < 16) ∧ Arr wr g4 26 (u8v (ShaMath.nibAt (l.map ShaMath.hexv) k)) ∧ Arr wr w.heap.size 26 Z ∧ Below w.heap.size w wr) (fun i _ => 64 - (intOf i).toNat)
    case atStart => exact ⟨0, by omega, rfl, (by intro i hi; omega), HA4.out, HA2.out, HB2.out⟩
    case round =>
      clear HA4 HA2 HB2
      obtain ⟨k, hk, rfl, hval, h4, h2, hBw⟩ := hrel
      by_cases hlt : k < 64
      · have hll := HL.out
        have hkl : k < l.length := by omega
        obtain ⟨c, hc⟩ : ∃ c : Nat, c = l[k]?.getD 0 := ⟨_, rfl⟩
        have hcl : c < 256 := by rw [hc]; exact ShaMath.getD_lt hb (by decide) k
        have hcg : l[k]? = some c := by rw [hc]; simp [hkl]
        have HIX : Hid (∀ w, _) := fun w => indexByte_any c w hcl
        have HCG : Hid _ := hcg
        have H2 : Hid _ := h2
        have H4 : Hid _ := h4
        have HV : Hid _ := hval
        by_cases hd : ShaMath.hexv c < 16
        · obtain ⟨d, hd1, gd⟩ : ∃ d : Nat, hexI c = (d : Int) ∧ d = ShaMath.hexv c := ⟨ShaMath.hexv c, by unfold hexI; rw [if_pos hd], rfl⟩
          have hp := nib_small hval hkl
          have hstep := ShaMath.nibAt_step (l.map ShaMath.hexv) k (by simpa using hkl)
          have hget := ShaMath.nibAt_get (l.map ShaMath.hexv) k (k / 2) (by omega)
          have hcell := h4.cell8 (k / 2) (by rw [ShaMath.nibAt_len]; omega)
          have hfz := h4.frozen (k / 2)
          rw [hget] at hcell
          rw [show (l.map ShaMath.hexv)[k]?.getD 0 = d by rw [gd, hc]; simp [hkl]] at hstep
          generalize ShaMath.nib ((l.map ShaMath.hexv).take k) (k / 2) = p at *
          have hor := or4 p d hp (by omega)
          obtain ⟨x, hx, gx⟩ : ∃ x : Nat, bits .or .u8 ((p : Int) * 16) (d : Int) = (x : Int) ∧ x = p * 16 + d := ⟨_, hor, rfl⟩
          rw [← gx] at hstep
          have HST : Hid _ := hstep
          have HVN : Hid (∀ i, i < k + 1 → ShaMath.hexv (l[i]?.getD 0) < 16) := all_take hval (by rw [← hc]; exact hd)
          rw [hd1] at HIX
          have hdl : d < 16 := by omega
          have hkq : k / 2 < 32 := by omega
          clear hc hcg h2 h4 hval hstep hget hor gx hd1 gd hd hll
          go_wp2_with (refine wpList_index_str rfl (.tmp 16) (.tmp 17) rfl l .i64 k c rfl rfl HCG.out hcl ?_)
          refine Calls.mono (show Calls Tryd.prog 24 _ _ _ by rw [dig_str]; exact HIX.out _) ?_
          rintro e w1 ⟨rfl, rfl⟩
          go_wp2
          go_roundw
          case rel => exact ⟨k + 1, by omega, by go_num, HVN.out, by rw [HST.out, ← u8v_set]; exact Arr.set H4.out _ _, Arr.set_other H2.out _ (by simp; omega) _, hBw.setCell (by simp; omega) _⟩
          case measure => simp [intOf]; omega
        · have hd1 : hexI c = -1 := by unfold hexI; rw [if_neg hd]
          have HNO : Hid (ShaMath.okHex l = false) := not_ok_of k hkl (by rw [← hc]; exact hd)
          rw [hd1] at HIX
          clear hc hcg h2 h4 hval hd1 hd hll
          go_wp2_with (refine wpList_index_str rfl (.tmp 16) (.tmp 17) rfl l .i64 k c rfl rfl HCG.out hcl ?_)
          refine Calls.mono (show Calls Tryd.prog 24 _ _ _ by rw [dig_str]; exact HIX.out _) ?_
          rintro e w1 ⟨rfl, rfl⟩
          go_wp2_with (first
            | (refine wpList_build_is rfl 26 #[] rfl [] (by simp) Z.toArray HBu.out ?_)
            | (refine wpList_store_arr rfl 26 (.tmp 2) (.tmp 22) rfl w.heap.size 26 Z Z rfl rfl H2.out (by rw [HZl.out]; exact size26) rfl HZo.out ?_))
          (try simp only [Exit.inBlock, Exit.then])
          refine ret_arr2 w.heap.size 26 Z (.array 32 5) (.bool false) rfl rfl rfl (Arr.row H2.out) Tryd.underlying26 rfl (by rw [HZl.out]; exact size26) rfl ⟨by rw [HNO.out, parse_no HNO.out, ← HZ.out], below_setRow hBw (Nat.le_refl _) _⟩
      · obtain rfl : k = 64 := by omega
        have hok := ok_of (by have := HL.out; omega) hval
        rw [← parse_yes hok] at h4
        have HOK : Hid _ := hok
        have H2 : Hid _ := h2
        have H4 : Hid _ := h4
        have HRl : Hid ((u8v (ShaMath.parseX l)).length = 32) := by show _ = _; rw [u8v_len, ShaMath.parseX_len]
        have HRo : Hid _ := u8v_one (ShaMath.parseX l)
        obtain ⟨R, hR⟩ : ∃ R, R = u8v (ShaMath.parseX l) := ⟨_, rfl⟩
        have HR : Hid (R = u8v (ShaMath.parseX l)) := hR
        rw [← hR] at H4 HRl HRo
        clear h2 h4 hlt hok hR hval
        go_wp2_with (first
          | (refine wpList_load_mid rfl 26 (.tmp 4) rfl g4 0 rfl R (.array 32 5) (range_of_arr H4.out) Tryd.underlying26 rfl (by rw [HRl.out]; exact size26) ?_)
          | (refine wpList_store_arr rfl 26 (.tmp 2) (.tmp 35) rfl w.heap.size 26 Z R rfl rfl H2.out (by rw [HRl.out]; exact size26) (by rw [HZl.out, HRl.out]) HRo.out ?_))
        (try simp only [Exit.inBlock, Exit.then])
        refine ret_arr2 w.heap.size 26 R (.array 32 5) (.bool true) rfl rfl rfl (Arr.row H2.out) Tryd.underlying26 rfl (by rw [HRl.out]; exact size26) rfl ⟨by rw [HOK.out, HR.out], below_setRow hBw (Nat.le_refl _) _⟩
  · have HNO : Hid (ShaMath.okHex l = false) := len_no (by rw [← HL.out]; exact h64)
    have hne : ((L : Int) != 64) = true := by simp; omega
    go_enter Tryd.func16, Tryd.ntmps16
    go_wp2_with (first
      | (refine wpList_build_is rfl 26 #[] rfl [] (by simp) Z.toArray HBu.out ?_)
      | (refine wpList_store_arr rfl 26 (.tmp 2) (.tmp 10) rfl w.heap.size 26 Z Z rfl rfl HA.out (by rw [HZl.out]; exact size26) rfl HZo.out ?_))
    (try simp only [Exit.inBlock, Exit.then])
    refine ret_arr2 w.heap.size 26 Z (.array 32 5) (.bool false) rfl rfl rfl (Arr.row HA.out) Tryd.underlying26 rfl (by rw [HZl.out]; exact size26) rfl ⟨by rw [HNO.out, parse_no HNO.out, ← HZ.out], below_setRow HBl.out (Nat.le_refl _) _⟩

end Go.Proofs.YtfgpoclflikhmaaDoor

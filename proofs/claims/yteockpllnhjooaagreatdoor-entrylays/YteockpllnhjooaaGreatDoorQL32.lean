/-
  FnRefTop, FnRefCut, FnSeat, NatsKit.
-/
import Derived.Test.YteockpllnhjooaaGreatDoorQL30
import Derived.Test.YteockpllnhjooaaGreatDoorQL11
import Derived.Test.YteockpllnhjooaaGreatDoorQL31
import Derived.Test.YteockpllnhjooaaGreatDoorQL22
namespace Go.Proofs.YteockpllnhjooaaGreatDoor
open Go.RowKit NumMath
set_option maxRecDepth 100000
set_option linter.unusedVariables false
set_option linter.unusedSimpArgs false

theorem runes_le (l : List Nat) : ∀ r ∈ TxtMath.runes l, r ≤ 1114111 := fun r h => TxtMath.valid_le (TxtMath.runes_ok l r h)
theorem clean_le (l : List Nat) : (TxtMath.clean (TxtMath.runes l)).length ≤ l.length := by
  have h2 := TxtMath.clean_len (TxtMath.runes l)
  have h3 := TxtMath.runes_len_le l
  omega

/-- newsreelref4's runes made clean. -/
theorem refCleanR_any (l : List Nat) (w : World) (hb : ∀ c ∈ l, c < 256) (hm : l.length ≤ 17592186044000) :
    ∀ ao cap, VRow w ao (iv (TxtMath.runes l)) → (TxtMath.runes l).length ≤ cap → cap ≤ maxLen →
    Calls Tryz.prog 33 #[.slice ao (TxtMath.runes l).length cap] w fun e w' => ∃ v, e = .returned v ∧ Own w' w.heap.size 3 v (iv (TxtMath.clean (TxtMath.runes l))) ∧ Below w.heap.size w w' := by
  intro ao cap h1 h2 h3
  have h4 := TxtMath.runes_len_le l
  exact refClean_any ao cap _ w h1 (runes_le l) h2 h3 (by omega)

set_option maxRecDepth 100000 in
theorem refCleanS_any (l : List Nat) (w : World) (hb : ∀ c ∈ l, c < 256) (hm : l.length ≤ 17592186044000) :
    Calls Tryz.prog 31 #[.string (strN l)] w fun e w' => e = .returned (.string (strN (TxtMath.cleanB l))) ∧ Below w.heap.size w w' := by
  have HR : Hid (∀ w, _) := fun w => refRunes_any l w hb hm
  have HC : Hid (∀ w, _) := fun w => refCleanR_any l w hb hm
  have HQ : Hid (TxtMath.cleanB l = TxtMath.encs (TxtMath.clean (TxtMath.runes l))) := rfl
  have hcl := clean_le l
  have HV : Hid _ := TxtMath.clean_ok l
  generalize TxtMath.clean (TxtMath.runes l) = C at *
  generalize TxtMath.runes l = R at *
  go_enter Tryz.func31, Tryz.ntmps31
  go_wp2_with fail
  refine Calls.mono (HR.out _) ?_
  rintro e w1 ⟨v1, rfl, ho1, hb1⟩
  obtain ⟨a1, c1, rfl, hc1, hm1, _, hr1⟩ := ho1.shape
  rw [iv_len] at hc1 ⊢
  have HB1 : Hid _ := hb1
  have HR1 : Hid _ := HC.out w1 a1 c1 hr1 hc1 hm1
  clear ho1 hb1 hr1
  go_wp2_with fail
  refine Calls.mono HR1.out ?_
  rintro e w2 ⟨v2, rfl, ho2, hb2⟩
  obtain ⟨a2, c2, rfl, hc2, hm2, _, hr2⟩ := ho2.shape
  rw [iv_len] at hc2 ⊢
  have HB2 : Hid _ := HB1.out.trans (hb2.mono HB1.out.size)
  have HO : Hid _ := of_any a2 c2 C w2 hr2 HV.out hc2 hm2 (by omega)
  clear ho2 hb2 hr2
  go_wp2_with fail
  refine Calls.mono HO.out ?_
  rintro e w3 ⟨rfl, hb3⟩
  have HB3 : Hid _ := HB2.out.trans (hb3.mono HB2.out.size)
  clear hb3
  go_wp2
  go_ret
  rw [HQ.out]
  exact ⟨rfl, HB3.out⟩

end Go.Proofs.YteockpllnhjooaaGreatDoor
namespace Go.Proofs.YteockpllnhjooaaGreatDoor
open Go.RowKit NumMath
set_option maxRecDepth 100000
set_option linter.unusedVariables false
set_option linter.unusedSimpArgs false

set_option maxRecDepth 100000 in
set_option maxHeartbeats 2000000 in
theorem refCut_any (l : List Nat) (n : Int) (w : World) (hb : ∀ c ∈ l, c < 256) (hm : l.length ≤ 17592186044000) (hn : -9223372036854775808 ≤ n ∧ n ≤ 9223372036854775807) :
    Calls Tryz.prog 15 #[.string (strN l), .int .i64 n] w fun e w' => e = .returned (.string (strN (TxtMath.cutB l n))) ∧ Below w.heap.size w w' := by
  have HR : Hid (∀ w, _) := fun w => refRunes_any l w hb hm
  have HC : Hid (∀ w, _) := fun w => refCleanR_any l w hb hm
  have HQ : Hid (TxtMath.cutB l n = TxtMath.encs (TxtMath.trimR ((TxtMath.clean (TxtMath.runes l)).take n.toNat))) := rfl
  have hcl := clean_le l
  have HV : Hid _ := TxtMath.clean_ok l
  generalize TxtMath.clean (TxtMath.runes l) = C at *
  generalize TxtMath.runes l = R at *
  go_enter Tryz.func15, Tryz.ntmps15
  go_wp2_with fail
  refine Calls.mono (HR.out _) ?_
  rintro e w1 ⟨v1, rfl, ho1, hb1⟩
  obtain ⟨a1, c1, rfl, hc1, hm1, _, hr1⟩ := ho1.shape
  rw [iv_len] at hc1 ⊢
  have HB1 : Hid _ := hb1
  have HR1 : Hid _ := HC.out w1 a1 c1 hr1 hc1 hm1
  clear ho1 hb1 hr1
  go_wp2_with fail
  refine Calls.mono HR1.out ?_
  rintro e w2 ⟨v2, rfl, ho2, hb2⟩
  obtain ⟨a2, c2, rfl, hc2, hm2, hn2, hr2⟩ := ho2.shape
  rw [iv_len] at hc2 ⊢
  unfold maxLen at hm2
  have HB2 : Hid _ := HB1.out.trans (hb2.mono HB1.out.size)
  -- how many
  obtain ⟨k, hk⟩ : ∃ k : Nat, k = min n.toNat C.length := ⟨_, rfl⟩
  have hkC : k ≤ C.length := by omega
  have HK : Hid (C.take n.toNat = C.take k) := by
    show _ = _
    rcases Nat.le_total n.toNat C.length with h | h
    · rw [hk, Nat.min_eq_left h]
    · rw [hk, Nat.min_eq_right h, List.take_of_length_le h, List.take_of_length_le (Nat.le_refl _)]
  have hmin : min (max n 0) (C.length : Int) = (k : Int) := by omega
  have HT : Hid (VRow w2 a2 (iv (C.take k))) := by show VRow _ _ _; rw [iv_take]; exact VRow.take hr2 k
  have HTl : Hid ((C.take k).length = k) := by show _ = _; rw [List.length_take]; omega
  clear ho2 hb2 hk
  have fin : ∀ q : Nat, q ≤ k → TxtMath.trimR (C.take k) = C.take q → ∀ (w' : World), w' = w2 →
      Calls Tryz.prog 34 #[.slice a2 q c2] w' fun e w' => e = .returned (.string (strN (TxtMath.cutB l n))) ∧ Below w2.heap.size w2 w' := by
    intro q hq htr w' hw'
    subst hw'
    have hql : (C.take q).length = q := by rw [List.length_take]; omega
    have h1 := of_any a2 c2 (C.take q) w' (by rw [iv_take]; exact VRow.take hr2 q) (fun r hr => HV.out r (List.mem_of_mem_take hr)) (by omega) hm2 (by omega)
    rw [hql] at h1
    rw [HQ.out, HK.out, htr]
    exact h1
  have HF : Hid _ := fin
  have HTR : Hid _ := hr2
  clear fin hr2
  by_cases hk0 : 0 < k
  · obtain ⟨j, rfl⟩ : ∃ j, k = j + 1 := ⟨k - 1, by omega⟩
    obtain ⟨b, off, rfl, hcell⟩ := VRow.at HTR.out (k := j) (by rw [iv_len]; omega)
    obtain ⟨r, hrk⟩ : ∃ r, C[j]? = some r := ⟨C[j]'(by omega), List.getElem?_eq_getElem (by omega)⟩
    have hcx := hcell j _ (iv_get hrk)
    have HL : Hid ((C.take (j + 1)) = C.take j ++ [r]) := by
      show _ = _
      obtain ⟨h1, h2⟩ := List.getElem?_eq_some_iff.1 hrk
      rw [List.take_succ_eq_append_getElem h1, h2]
    clear hcell hrk
    by_cases h32 : r = 32
    · subst h32
      have HTM : Hid (TxtMath.trimR (C.take (j + 1)) = C.take j) := by
        show _ = _; rw [HL.out]; unfold TxtMath.trimR; simp
      go_wp2_with fail
      refine Calls.mono (HF.out j (by omega) HTM.out _ rfl) ?_
      rintro e w3 ⟨rfl, hb3⟩
      have HB3 : Hid _ := HB2.out.trans (hb3.mono HB2.out.size)
      clear hb3
      go_wp2
      go_ret
      exact ⟨rfl, HB3.out⟩
    · have HTM : Hid (TxtMath.trimR (C.take (j + 1)) = C.take (j + 1)) := by
        show _ = _; rw [HL.out]; unfold TxtMath.trimR; simp [h32]
      have hne : ((r : Int) == 32) = false := by simp; omega
      go_wp2_with fail
      refine Calls.mono (HF.out (j + 1) (by omega) HTM.out _ rfl) ?_
      rintro e w3 ⟨rfl, hb3⟩
      have HB3 : Hid _ := HB2.out.trans (hb3.mono HB2.out.size)
      clear hb3
      go_wp2
      go_ret
      exact ⟨rfl, HB3.out⟩
  · obtain rfl : k = 0 := by omega
    have HTM : Hid (TxtMath.trimR (C.take 0) = C.take 0) := by show _ = _; simp [TxtMath.trimR]
    go_wp2_with fail
    refine Calls.mono (HF.out 0 (by omega) HTM.out _ rfl) ?_
    rintro e w3 ⟨rfl, hb3⟩
    have HB3 : Hid _ := HB2.out.trans (hb3.mono HB2.out.size)
    clear hb3
    go_wp2
    go_ret
    exact ⟨rfl, HB3.out⟩
end Go.Proofs.YteockpllnhjooaaGreatDoor
namespace Go.Proofs.YteockpllnhjooaaGreatDoor
open Go.RowKit NumMath
set_option maxRecDepth 100000
set_option linter.unusedVariables false
set_option linter.unusedSimpArgs false

def seatA : List Nat := [32, 32, 9, 160, 8195, 12288, 133, 10]
def seatB : List Nat := [0, 31, 127, 65533, 8208, 128512, 215, 247, 34, 92, 930, 1024]
/-- The rune that a number stands for. -/
def seatR (x : Nat) : Nat :=
  if x % 8 = 0 then seatA[x / 8 % 8]?.getD 0 else if x % 8 = 1 then 192 + x / 8 % 60 else if x % 8 = 2 then 900 + x / 8 % 200
  else if x % 8 = 3 then seatB[x / 8 % 12]?.getD 0 else if x % 8 ≤ 5 then 48 + x / 8 % 75 else 97 + x / 8 % 26
theorem seatA_ok : ∀ j : Fin 8, seatA[j.val]?.getD 0 ≤ 12288 := by decide
theorem seatB_ok : ∀ j : Fin 12, TxtMath.valid (seatB[j.val]?.getD 0) = true := by decide
theorem seatR_valid (x : Nat) : TxtMath.valid (seatR x) = true := by
  unfold seatR
  split
  · have := seatA_ok ⟨x / 8 % 8, by omega⟩
    simp only at this
    simp [TxtMath.valid]; omega
  · split
    · simp [TxtMath.valid]; omega
    · split
      · simp [TxtMath.valid]; omega
      · split
        · exact seatB_ok ⟨x / 8 % 12, by omega⟩
        · split
          · simp [TxtMath.valid]; omega
          · simp [TxtMath.valid]; omega
theorem tab_cell (w : World) (l : List Nat) (j : Nat) (hj : j < l.length) : (w.alloc (.cells (iv l).toArray 3)).cell? ⟨w.heap.size, j, none⟩ = some (.int .i64 ((l[j]?.getD 0 : Nat) : Int)) := by
  simp [iv, hj]
/-- The text that numbers stand for. -/
def seatT (xs : List Nat) : List Nat := TxtMath.encs (xs.map seatR)
theorem seatT_lt (xs : List Nat) : ∀ c ∈ seatT xs, c < 256 := TxtMath.encs_lt _ (by
  intro r hr
  obtain ⟨x, _, rfl⟩ := List.mem_map.1 hr
  exact seatR_valid x)
theorem seatT_len (xs : List Nat) : (seatT xs).length ≤ 4 * xs.length := by
  have := TxtMath.encs_len_le (xs.map seatR)
  rwa [List.length_map] at this
/-- numbers of 16 bits as values -/
def hv16 (l : List Nat) : List Value := l.map fun n : Nat => Value.int .u16 (n : Int)
theorem hv16_len (l : List Nat) : (hv16 l).length = l.length := by simp [hv16]

set_option maxRecDepth 1000000 in
set_option maxHeartbeats 4000000 in
theorem seatRunes_any (ao : Option Addr) (cap : Nat) (l : List Nat) (w : World) (hr : VRow w ao (hv16 l)) (hv : ∀ r ∈ l, r < 65536) (hc : l.length ≤ cap) (hm : cap ≤ maxLen) (hl : l.length ≤ 1000000) :
    Calls Tryz.prog 16 #[.slice ao l.length cap] w fun e w' => e = .returned (.string (strN (seatT l))) ∧ Below w.heap.size w w' := by
  unfold maxLen at hm
  obtain ⟨n, hn⟩ : ∃ n, n = l.length := ⟨_, rfl⟩
  have HN : Hid _ := hn
  have HR : Hid _ := hr
  have HV : Hid _ := hv
  rw [← hn] at hc hl ⊢
  clear hn hr hv
  go_enter Tryz.func16, Tryz.ntmps16
  go_wp2
  go_loopw [3, 4] (fun out i wr => ∃ k : Nat, k ≤ n ∧ i = .int .i64 (k : Int) ∧ Own wr w.heap.size 3 out (iv ((l.take k).map seatR)) ∧ Below w.heap.size w wr) (fun _ i _ => n - (intOf i).toNat)
  case atStart => exact ⟨0, by omega, rfl, Own.nil _ _ _, Below.refl _ _⟩
  case round =>
    obtain ⟨k, hk, rfl, hown, hbw⟩ := hrel
    have HB : Hid _ := hbw
    have HO : Hid _ := hown
    have hg1 : w.heap.size ≤ wr.heap.size := hbw.size
    by_cases hlt : k < n
    · have hkl : k < l.length := by rw [← HN.out]; exact hlt
      obtain ⟨b, off, rfl, hcell⟩ := VRow.at HR.out (k := k) (by rw [hv16_len]; exact hkl)
      obtain ⟨x, hxk⟩ : ∃ x, l[k]? = some x := ⟨l[k], List.getElem?_eq_getElem hkl⟩
      have HC0 : Hid (w.cell? ⟨b, off + k, none⟩ = some (.int .u16 (x : Int))) := hcell k _ (by simp [hv16, hxk])
      have hcx := cell_later HC0.out hbw
      have hcxo : ∀ o, (wr.alloc o).cell? ⟨b, off + k, none⟩ = some (.int .u16 (x : Int)) := fun o => cell_later HC0.out (hbw.alloc hg1 o)
      have hx := HV.out x (List.mem_of_getElem? hxk)
      have HT : Hid (iv ((l.take (k + 1)).map seatR) = iv ((l.take k).map seatR) ++ [.int .i64 ((seatR x : Nat) : Int)]) := by
        show _ = _
        have : l.take (k + 1) = l.take k ++ [x] := by
          obtain ⟨h1, h2⟩ := List.getElem?_eq_some_iff.1 hxk
          rw [List.take_succ_eq_append_getElem hkl, h2]
        rw [this, List.map_append, iv_append]; rfl
      have hlen : (iv ((l.take k).map seatR)).length ≤ n := by rw [iv_len, List.length_map, List.length_take]; omega
      clear hcell hxk hbw hown
      generalize iv ((l.take k).map seatR) = vs at *
      obtain ⟨m, hmx⟩ : ∃ m : Nat, (x : Int) % 8 = (m : Int) := ⟨x % 8, by omega⟩
      have hm8 : m < 8 := by omega
      have HMX : Hid (x % 8 = m) := by show _ = _; omega
      obtain ⟨y, hy⟩ : ∃ y : Nat, (x : Int) / 8 = (y : Int) := ⟨x / 8, by omega⟩
      have HY : Hid (x / 8 = y) := by show _ = _; omega
      have hyb : y < 8192 := by omega
      have htA : (wr.alloc (.cells #[.int .i64 32, .int .i64 32, .int .i64 9, .int .i64 160, .int .i64 8195, .int .i64 12288, .int .i64 133, .int .i64 10] 3)).cell? ⟨wr.heap.size, y % 8, none⟩ = some (.int .i64 ((seatA[y % 8]?.getD 0 : Nat) : Int)) := tab_cell wr seatA (y % 8) (by simp [seatA]; omega)
      have htB : (wr.alloc (.cells #[.int .i64 0, .int .i64 31, .int .i64 127, .int .i64 65533, .int .i64 8208, .int .i64 128512, .int .i64 215, .int .i64 247, .int .i64 34, .int .i64 92, .int .i64 930, .int .i64 1024] 3)).cell? ⟨wr.heap.size, y % 12, none⟩ = some (.int .i64 ((seatB[y % 12]?.getD 0 : Nat) : Int)) := tab_cell wr seatB (y % 12) (by simp [seatB]; omega)
      rcases (by omega : m = 0 ∨ m = 1 ∨ m = 2 ∨ m = 3 ∨ m = 4 ∨ m = 5 ∨ m = 6 ∨ m = 7) with rfl | rfl | rfl | rfl | rfl | rfl | rfl | rfl
      · have hxv : seatR x = seatA[y % 8]?.getD 0 := by unfold seatR; rw [HMX.out, HY.out]; simp
        have HX : Hid _ := hxv
        clear hxv
        go_wp2_with (at_builtin; refine wpList_app_int rfl _ _ rfl w.heap.size _ vs (.int .i64 ((seatA[y % 8]?.getD 0 : Nat) : Int)) rfl (Own.alloc (Own.alloc HO.out _) _) _ rfl (by simp) rfl (by omega) (by simp; omega) ?_; intro v2 w4 hown2 hgrow2)
        have HO2 : Hid (Own w4 w.heap.size 3 v2 (iv ((l.take (k + 1)).map seatR))) := by show Own _ _ _ _ _; rw [HT.out, HX.out]; exact hown2
        have HB2 : Hid (Below w.heap.size w w4) := Own.below (Own.alloc (Own.alloc HO.out _) _) hgrow2 ((HB.out.alloc hg1 _).alloc (by simp; omega) _) (by simp; omega)
        clear hown2 hgrow2
        go_wp2
        go_roundw
        case rel => exact ⟨k + 1, by omega, by simp, HO2.out, HB2.out⟩
        case measure => simp [intOf]; omega
      · have hxv : seatR x = 192 + y % 60 := by unfold seatR; rw [HMX.out, HY.out]; simp
        have HX : Hid _ := hxv
        clear hxv
        go_wp2_with (at_builtin; refine wpList_app_int rfl _ _ rfl w.heap.size _ vs (.int .i64 ((192 + y % 60 : Nat) : Int)) rfl (Own.alloc HO.out _) _ rfl (by simp) rfl (by omega) (by simp; omega) ?_; intro v2 w4 hown2 hgrow2)
        have HO2 : Hid (Own w4 w.heap.size 3 v2 (iv ((l.take (k + 1)).map seatR))) := by show Own _ _ _ _ _; rw [HT.out, HX.out]; exact hown2
        have HB2 : Hid (Below w.heap.size w w4) := Own.below (Own.alloc HO.out _) hgrow2 (HB.out.alloc hg1 _) (by simp; omega)
        clear hown2 hgrow2
        go_wp2
        go_roundw
        case rel => exact ⟨k + 1, by omega, by simp, HO2.out, HB2.out⟩
        case measure => simp [intOf]; omega
      · have hxv : seatR x = 900 + y % 200 := by unfold seatR; rw [HMX.out, HY.out]; simp
        have HX : Hid _ := hxv
        clear hxv
        go_wp2_with (at_builtin; refine wpList_app_int rfl _ _ rfl w.heap.size _ vs (.int .i64 ((900 + y % 200 : Nat) : Int)) rfl (Own.alloc HO.out _) _ rfl (by simp) rfl (by omega) (by simp; omega) ?_; intro v2 w4 hown2 hgrow2)
        have HO2 : Hid (Own w4 w.heap.size 3 v2 (iv ((l.take (k + 1)).map seatR))) := by show Own _ _ _ _ _; rw [HT.out, HX.out]; exact hown2
        have HB2 : Hid (Below w.heap.size w w4) := Own.below (Own.alloc HO.out _) hgrow2 (HB.out.alloc hg1 _) (by simp; omega)
        clear hown2 hgrow2
        go_wp2
        go_roundw
        case rel => exact ⟨k + 1, by omega, by simp, HO2.out, HB2.out⟩
        case measure => simp [intOf]; omega
      · have hxv : seatR x = seatB[y % 12]?.getD 0 := by unfold seatR; rw [HMX.out, HY.out]; simp
        have HX : Hid _ := hxv
        clear hxv
        go_wp2_with (at_builtin; refine wpList_app_int rfl _ _ rfl w.heap.size _ vs (.int .i64 ((seatB[y % 12]?.getD 0 : Nat) : Int)) rfl (Own.alloc (Own.alloc HO.out _) _) _ rfl (by simp) rfl (by omega) (by simp; omega) ?_; intro v2 w4 hown2 hgrow2)
        have HO2 : Hid (Own w4 w.heap.size 3 v2 (iv ((l.take (k + 1)).map seatR))) := by show Own _ _ _ _ _; rw [HT.out, HX.out]; exact hown2
        have HB2 : Hid (Below w.heap.size w w4) := Own.below (Own.alloc (Own.alloc HO.out _) _) hgrow2 ((HB.out.alloc hg1 _).alloc (by simp; omega) _) (by simp; omega)
        clear hown2 hgrow2
        go_wp2
        go_roundw
        case rel => exact ⟨k + 1, by omega, by simp, HO2.out, HB2.out⟩
        case measure => simp [intOf]; omega
      · have hxv : seatR x = 48 + y % 75 := by unfold seatR; rw [HMX.out, HY.out]; simp
        have HX : Hid _ := hxv
        clear hxv
        go_wp2_with (at_builtin; refine wpList_app_int rfl _ _ rfl w.heap.size _ vs (.int .i64 ((48 + y % 75 : Nat) : Int)) rfl (Own.alloc HO.out _) _ rfl (by simp) rfl (by omega) (by simp; omega) ?_; intro v2 w4 hown2 hgrow2)
        have HO2 : Hid (Own w4 w.heap.size 3 v2 (iv ((l.take (k + 1)).map seatR))) := by show Own _ _ _ _ _; rw [HT.out, HX.out]; exact hown2
        have HB2 : Hid (Below w.heap.size w w4) := Own.below (Own.alloc HO.out _) hgrow2 (HB.out.alloc hg1 _) (by simp; omega)
        clear hown2 hgrow2
        go_wp2
        go_roundw
        case rel => exact ⟨k + 1, by omega, by simp, HO2.out, HB2.out⟩
        case measure => simp [intOf]; omega
      · have hxv : seatR x = 48 + y % 75 := by unfold seatR; rw [HMX.out, HY.out]; simp
        have HX : Hid _ := hxv
        clear hxv
        go_wp2_with (at_builtin; refine wpList_app_int rfl _ _ rfl w.heap.size _ vs (.int .i64 ((48 + y % 75 : Nat) : Int)) rfl (Own.alloc HO.out _) _ rfl (by simp) rfl (by omega) (by simp; omega) ?_; intro v2 w4 hown2 hgrow2)
        have HO2 : Hid (Own w4 w.heap.size 3 v2 (iv ((l.take (k + 1)).map seatR))) := by show Own _ _ _ _ _; rw [HT.out, HX.out]; exact hown2
        have HB2 : Hid (Below w.heap.size w w4) := Own.below (Own.alloc HO.out _) hgrow2 (HB.out.alloc hg1 _) (by simp; omega)
        clear hown2 hgrow2
        go_wp2
        go_roundw
        case rel => exact ⟨k + 1, by omega, by simp, HO2.out, HB2.out⟩
        case measure => simp [intOf]; omega
      · have hxv : seatR x = 97 + y % 26 := by unfold seatR; rw [HMX.out, HY.out]; simp
        have HX : Hid _ := hxv
        clear hxv
        go_wp2_with (at_builtin; refine wpList_app_int rfl _ _ rfl w.heap.size _ vs (.int .i64 ((97 + y % 26 : Nat) : Int)) rfl (Own.alloc HO.out _) _ rfl (by simp) rfl (by omega) (by simp; omega) ?_; intro v2 w4 hown2 hgrow2)
        have HO2 : Hid (Own w4 w.heap.size 3 v2 (iv ((l.take (k + 1)).map seatR))) := by show Own _ _ _ _ _; rw [HT.out, HX.out]; exact hown2
        have HB2 : Hid (Below w.heap.size w w4) := Own.below (Own.alloc HO.out _) hgrow2 (HB.out.alloc hg1 _) (by simp; omega)
        clear hown2 hgrow2
        go_wp2
        go_roundw
        case rel => exact ⟨k + 1, by omega, by simp, HO2.out, HB2.out⟩
        case measure => simp [intOf]; omega
      · have hxv : seatR x = 97 + y % 26 := by unfold seatR; rw [HMX.out, HY.out]; simp
        have HX : Hid _ := hxv
        clear hxv
        go_wp2_with (at_builtin; refine wpList_app_int rfl _ _ rfl w.heap.size _ vs (.int .i64 ((97 + y % 26 : Nat) : Int)) rfl (Own.alloc HO.out _) _ rfl (by simp) rfl (by omega) (by simp; omega) ?_; intro v2 w4 hown2 hgrow2)
        have HO2 : Hid (Own w4 w.heap.size 3 v2 (iv ((l.take (k + 1)).map seatR))) := by show Own _ _ _ _ _; rw [HT.out, HX.out]; exact hown2
        have HB2 : Hid (Below w.heap.size w w4) := Own.below (Own.alloc HO.out _) hgrow2 (HB.out.alloc hg1 _) (by simp; omega)
        clear hown2 hgrow2
        go_wp2
        go_roundw
        case rel => exact ⟨k + 1, by omega, by simp, HO2.out, HB2.out⟩
        case measure => simp [intOf]; omega
    · clear hbw hown
      have e : k = n := by omega
      subst e
      obtain ⟨ao', cp, hov, hc1, hc2, hnil, hrow⟩ := Own.shape HO.out
      have e2 : l.take k = l := List.take_of_length_le (by rw [← HN.out]; omega)
      rw [e2] at hov hc1 hrow
      rw [iv_len] at hov hc1
      have hml : (l.map seatR).length = k := by rw [List.length_map, ← HN.out]
      have HF : Hid _ := of_any ao' cp (l.map seatR) wr hrow (by
        intro r hr
        obtain ⟨x, _, rfl⟩ := List.mem_map.1 hr
        exact seatR_valid x) hc1 hc2 (by omega)
      rw [hml] at hov HF
      clear hrow hc1 hml e2
      subst hov
      go_wp2_with fail
      refine Calls.mono HF.out ?_
      rintro e w3 ⟨rfl, hb3⟩
      have HB3 : Hid _ := HB.out.trans (hb3.mono HB.out.size)
      clear hb3
      go_wp2
      go_ret
      exact ⟨rfl, HB3.out⟩
end Go.Proofs.YteockpllnhjooaaGreatDoor
namespace Go.Proofs.YteockpllnhjooaaGreatDoor
open Go.RowKit NumMath
set_option maxRecDepth 100000
set_option linter.unusedVariables false
set_option linter.unusedSimpArgs false

theorem nats16k {xs : List Int} (h : ∀ n ∈ xs, (Lit.int .u16 n).wf = true) : ∃ ns : List Nat, xs = ns.map (fun n : Nat => (n : Int)) ∧ ∀ x ∈ ns, x < 65536 := by
  refine ⟨xs.map Int.toNat, ?_, ?_⟩
  · rw [List.map_map]
    conv => lhs; rw [← List.map_id xs]
    apply List.map_congr_left
    intro n hn
    have := bounds_u16 (h n hn)
    simp; omega
  · intro x hx
    obtain ⟨n, hn, rfl⟩ := List.mem_map.1 hx
    have := bounds_u16 (h n hn)
    omega
theorem vrow16k {w : World} {a : Option Addr} {ns : List Nat} (h : Row .u16 w a (ns.map (fun n : Nat => (n : Int)))) : VRow w a (hv16 ns) := by
  rcases h with h | ⟨b, off, ha, hc⟩
  · left; rw [List.map_eq_nil_iff] at h; subst h; rfl
  · refine .inr ⟨b, off, ha, fun i v hi => ?_⟩
    have hil : i < ns.length := by have := (List.getElem?_eq_some_iff.1 hi).1; rwa [hv16_len] at this
    have := hc i (by rw [List.length_map]; exact hil)
    rw [this]
    simp [hv16, hil] at hi ⊢
    exact hi
end Go.Proofs.YteockpllnhjooaaGreatDoor

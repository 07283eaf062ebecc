/-
  Walk of newsreelseat.Runes.
-/
import Derived.Test.YteockpllnhjooaaGreatDoorFnRefTop
namespace Go.Proofs.YteockpllnhjooaaGreatDoor
open Go.RowKit NumMath
set_option maxRecDepth 100000
set_option linter.unusedVariables false
set_option linter.unusedSimpArgs false

def seatA : List Nat := [32, 32, 9, 160, 8195, 12288, 133, 10]
def seatB : List Nat := [0, 31, 127, 65533, 8208, 128512, 215, 247, 34, 92, 930, 1024]
/-- The rune that a number stands for. -/
def seatR (x : Nat) : Nat :=
  if x % 8 = 0 then seatA[x / 8 % 8]?.getD 0 else if x % 8 = 1 then 192 + x / 8 % 60 else if x % 8 = 2 then 900 + x / 8 % 200
  else if x % 8 = 3 then seatB[x / 8 % 12]?.getD 0 else if x % 8 ≤ 5 then 48 + x / 8 % 75 else 97 + x / 8 % 26
theorem seatA_ok : ∀ j : Fin 8, seatA[j.val]?.getD 0 ≤ 12288 := by decide
theorem seatB_ok : ∀ j : Fin 12, TxtMath.valid (seatB[j.val]?.getD 0) = true := by decide
theorem seatR_valid (x : Nat) : TxtMath.valid (seatR x) = true := by
  unfold seatR
  split
  · have := seatA_ok ⟨x / 8 % 8, by omega⟩
    simp only at this
    simp [TxtMath.valid]; omega
  · split
    · simp [TxtMath.valid]; omega
    · split
      · simp [TxtMath.valid]; omega
      · split
        · exact seatB_ok ⟨x / 8 % 12, by omega⟩
        · split
          · simp [TxtMath.valid]; omega
          · simp [TxtMath.valid]; omega
theorem tab_cell (w : World) (l : List Nat) (j : Nat) (hj : j < l.length) : (w.alloc (.cells (iv l).toArray 3)).cell? ⟨w.heap.size, j, none⟩ = some (.int .i64 ((l[j]?.getD 0 : Nat) : Int)) := by
  simp [iv, hj]
/-- The text that numbers stand for. -/
def seatT (xs : List Nat) : List Nat := TxtMath.encs (xs.map seatR)
theorem seatT_lt (xs : List Nat) : ∀ c ∈ seatT xs, c < 256 := TxtMath.encs_lt _ (by
  intro r hr
  obtain ⟨x, _, rfl⟩ := List.mem_map.1 hr
  exact seatR_valid x)
theorem seatT_len (xs : List Nat) : (seatT xs).length ≤ 4 * xs.length := by
  have := TxtMath.encs_len_le (xs.map seatR)
  rwa [List.length_map] at this
/-- numbers of 16 bits as values -/
def hv16 (l : List Nat) : List Value := l.map fun n : Nat => Value.int .u16 (n : Int)
theorem hv16_len (l : List Nat) : (hv16 l).length = l.length := by simp [hv16]

set_option maxRecDepth 1000000 in
set_option maxHeartbeats 4000000 in
theorem seatRunes_any (ao : Option Addr) (cap : Nat) (l : List Nat) (w : World) (hr : VRow w ao (hv16 l)) (hv : ∀ r ∈ l, r < 65536) (hc : l.length ≤ cap) (hm : cap ≤ maxLen) (hl : l.length ≤ 1000000) :
    Calls Tryz.prog 16 #[.slice ao l.length cap] w fun e w' => e = .returned (.string (strN (seatT l))) ∧ Below w.heap.size w w' := by
  unfold maxLen at hm
  obtain ⟨n, hn⟩ : ∃ n, n = l.length := ⟨_, rfl⟩
  have HN : Hid _ := hn
  have HR : Hid _ := hr
  have HV : Hid _ := hv
  rw [← hn] at hc hl ⊢
  clear hn hr hv
  go_enter Tryz.func16, Tryz.ntmps16
  go_wp2
  go_loopw [3, 4] (fun out i wr => ∃ k : Nat, k ≤ n ∧ i = .int .i64 (k : Int) ∧ Own wr w.heap.size 3 out (iv ((l.take k).map seatR)) ∧ Below w.heap.size w wr) (fun _ i _ => n - (intOf i).toNat)
  case atStart => exact ⟨0, by omega, rfl, Own.nil _ _ _, Below.refl _ _⟩
  case round =>
    obtain ⟨k, hk, rfl, hown, hbw⟩ := hrel
    have HB : Hid _ := hbw
    have HO : Hid _ := hown
    have hg1 : w.heap.size ≤ wr.heap.size := hbw.size
    by_cases hlt : k < n
    · have hkl : k < l.length := by rw [← HN.out]; exact hlt
      obtain ⟨b, off, rfl, hcell⟩ := VRow.at HR.out (k := k) (by rw [hv16_len]; exact hkl)
      obtain ⟨x, hxk⟩ : ∃ x, l[k]? = some x := ⟨l[k], List.getElem?_eq_getElem hkl⟩
      have HC0 : Hid (w.cell? ⟨b, off + k, none⟩ = some (.int .u16 (x : Int))) := hcell k _ (by simp [hv16, hxk])
      have hcx := cell_later HC0.out hbw
      have hcxo : ∀ o, (wr.alloc o).cell? ⟨b, off + k, none⟩ = some (.int .u16 (x : Int)) := fun o => cell_later HC0.out (hbw.alloc hg1 o)
      have hx := HV.out x (List.mem_of_getElem? hxk)
      have HT : Hid (iv ((l.take (k + 1)).map seatR) = iv ((l.take k).map seatR) ++ [.int .i64 ((seatR x : Nat) : Int)]) := by
        show _ = _
        have : l.take (k + 1) = l.take k ++ [x] := by
          obtain ⟨h1, h2⟩ := List.getElem?_eq_some_iff.1 hxk
          rw [List.take_succ_eq_append_getElem hkl, h2]
        rw [this, List.map_append, iv_append]; rfl
      have hlen : (iv ((l.take k).map seatR)).length ≤ n := by rw [iv_len, List.length_map, List.length_take]; omega
      clear hcell hxk hbw hown
      generalize iv ((l.take k).map seatR) = vs at *
      obtain ⟨m, hmx⟩ : ∃ m : Nat, (x : Int) % 8 = (m : Int) := ⟨x % 8, by omega⟩
      have hm8 : m < 8 := by omega
      have HMX : Hid (x % 8 = m) := by show _ = _; omega
      obtain ⟨y, hy⟩ : ∃ y : Nat, (x : Int) / 8 = (y : Int) := ⟨x / 8, by omega⟩
      have HY : Hid (x / 8 = y) := by show _ = _; omega
      have hyb : y < 8192 := by omega
      have htA : (wr.alloc (.cells #[.int .i64 32, .int .i64 32, .int .i64 9, .int .i64 160, .int .i64 8195, .int .i64 12288, .int .i64 133, .int .i64 10] 3)).cell? ⟨wr.heap.size, y % 8, none⟩ = some (.int .i64 ((seatA[y % 8]?.getD 0 : Nat) : Int)) := tab_cell wr seatA (y % 8) (by simp [seatA]; omega)
      have htB : (wr.alloc (.cells #[.int .i64 0, .int .i64 31, .int .i64 127, .int .i64 65533, .int .i64 8208, .int .i64 128512, .int .i64 215, .int .i64 247, .int .i64 34, .int .i64 92, .int .i64 930, .int .i64 1024] 3)).cell? ⟨wr.heap.size, y % 12, none⟩ = some (.int .i64 ((seatB[y % 12]?.getD 0 : Nat) : Int)) := tab_cell wr seatB (y % 12) (by simp [seatB]; omega)
      rcases (by omega : m = 0 ∨ m = 1 ∨ m = 2 ∨ m = 3 ∨ m = 4 ∨ m = 5 ∨ m = 6 ∨ m = 7) with rfl | rfl | rfl | rfl | rfl | rfl | rfl | rfl
      · have hxv : seatR x = seatA[y % 8]?.getD 0 := by unfold seatR; rw [HMX.out, HY.out]; simp
        have HX : Hid _ := hxv
        clear hxv
        go_wp2_with (at_builtin; refine wpList_app_int rfl _ _ rfl w.heap.size _ vs (.int .i64 ((seatA[y % 8]?.getD 0 : Nat) : Int)) rfl (Own.alloc (Own.alloc HO.out _) _) _ rfl (by simp) rfl (by omega) (by simp; omega) ?_; intro v2 w4 hown2 hgrow2)
        have HO2 : Hid (Own w4 w.heap.size 3 v2 (iv ((l.take (k + 1)).map seatR))) := by show Own _ _ _ _ _; rw [HT.out, HX.out]; exact hown2
        have HB2 : Hid (Below w.heap.size w w4) := Own.below (Own.alloc (Own.alloc HO.out _) _) hgrow2 ((HB.out.alloc hg1 _).alloc (by simp; omega) _) (by simp; omega)
        clear hown2 hgrow2
        go_wp2
        go_roundw
        case rel => exact ⟨k + 1, by omega, by simp, HO2.out, HB2.out⟩
        case measure => simp [intOf]; omega
      · have hxv : seatR x = 192 + y % 60 := by unfold seatR; rw [HMX.out, HY.out]; simp
        have HX : Hid _ := hxv
        clear hxv
        go_wp2_with (at_builtin; refine wpList_app_int rfl _ _ rfl w.heap.size _ vs (.int .i64 ((192 + y % 60 : Nat) : Int)) rfl (Own.alloc HO.out _) _ rfl (by simp) rfl (by omega) (by simp; omega) ?_; intro v2 w4 hown2 hgrow2)
        have HO2 : Hid (Own w4 w.heap.size 3 v2 (iv ((l.take (k + 1)).map seatR))) := by show Own _ _ _ _ _; rw [HT.out, HX.out]; exact hown2
        have HB2 : Hid (Below w.heap.size w w4) := Own.below (Own.alloc HO.out _) hgrow2 (HB.out.alloc hg1 _) (by simp; omega)
        clear hown2 hgrow2
        go_wp2
        go_roundw
        case rel => exact ⟨k + 1, by omega, by simp, HO2.out, HB2.out⟩
        case measure => simp [intOf]; omega
      · have hxv : seatR x = 900 + y % 200 := by unfold seatR; rw [HMX.out, HY.out]; simp
        have HX : Hid _ := hxv
        clear hxv
        go_wp2_with (at_builtin; refine wpList_app_int rfl _ _ rfl w.heap.size _ vs (.int .i64 ((900 + y % 200 : Nat) : Int)) rfl (Own.alloc HO.out _) _ rfl (by simp) rfl (by omega) (by simp; omega) ?_; intro v2 w4 hown2 hgrow2)
        have HO2 : Hid (Own w4 w.heap.size 3 v2 (iv ((l.take (k + 1)).map seatR))) := by show Own _ _ _ _ _; rw [HT.out, HX.out]; exact hown2
        have HB2 : Hid (Below w.heap.size w w4) := Own.below (Own.alloc HO.out _) hgrow2 (HB.out.alloc hg1 _) (by simp; omega)
        clear hown2 hgrow2
        go_wp2
        go_roundw
        case rel => exact ⟨k + 1, by omega, by simp, HO2.out, HB2.out⟩
        case measure => simp [intOf]; omega
      · have hxv : seatR x = seatB[y % 12]?.getD 0 := by unfold seatR; rw [HMX.out, HY.out]; simp
        have HX : Hid _ := hxv
        clear hxv
        go_wp2_with (at_builtin; refine wpList_app_int rfl _ _ rfl w.heap.size _ vs (.int .i64 ((seatB[y % 12]?.getD 0 : Nat) : Int)) rfl (Own.alloc (Own.alloc HO.out _) _) _ rfl (by simp) rfl (by omega) (by simp; omega) ?_; intro v2 w4 hown2 hgrow2)
        have HO2 : Hid (Own w4 w.heap.size 3 v2 (iv ((l.take (k + 1)).map seatR))) := by show Own _ _ _ _ _; rw [HT.out, HX.out]; exact hown2
        have HB2 : Hid (Below w.heap.size w w4) := Own.below (Own.alloc (Own.alloc HO.out _) _) hgrow2 ((HB.out.alloc hg1 _).alloc (by simp; omega) _) (by simp; omega)
        clear hown2 hgrow2
        go_wp2
        go_roundw
        case rel => exact ⟨k + 1, by omega, by simp, HO2.out, HB2.out⟩
        case measure => simp [intOf]; omega
      · have hxv : seatR x = 48 + y % 75 := by unfold seatR; rw [HMX.out, HY.out]; simp
        have HX : Hid _ := hxv
        clear hxv
        go_wp2_with (at_builtin; refine wpList_app_int rfl _ _ rfl w.heap.size _ vs (.int .i64 ((48 + y % 75 : Nat) : Int)) rfl (Own.alloc HO.out _) _ rfl (by simp) rfl (by omega) (by simp; omega) ?_; intro v2 w4 hown2 hgrow2)
        have HO2 : Hid (Own w4 w.heap.size 3 v2 (iv ((l.take (k + 1)).map seatR))) := by show Own _ _ _ _ _; rw [HT.out, HX.out]; exact hown2
        have HB2 : Hid (Below w.heap.size w w4) := Own.below (Own.alloc HO.out _) hgrow2 (HB.out.alloc hg1 _) (by simp; omega)
        clear hown2 hgrow2
        go_wp2
        go_roundw
        case rel => exact ⟨k + 1, by omega, by simp, HO2.out, HB2.out⟩
        case measure => simp [intOf]; omega
      · have hxv : seatR x = 48 + y % 75 := by unfold seatR; rw [HMX.out, HY.out]; simp
        have HX : Hid _ := hxv
        clear hxv
        go_wp2_with (at_builtin; refine wpList_app_int rfl _ _ rfl w.heap.size _ vs (.int .i64 ((48 + y % 75 : Nat) : Int)) rfl (Own.alloc HO.out _) _ rfl (by simp) rfl (by omega) (by simp; omega) ?_; intro v2 w4 hown2 hgrow2)
        have HO2 : Hid (Own w4 w.heap.size 3 v2 (iv ((l.take (k + 1)).map seatR))) := by show Own _ _ _ _ _; rw [HT.out, HX.out]; exact hown2
        have HB2 : Hid (Below w.heap.size w w4) := Own.below (Own.alloc HO.out _) hgrow2 (HB.out.alloc hg1 _) (by simp; omega)
        clear hown2 hgrow2
        go_wp2
        go_roundw
        case rel => exact ⟨k + 1, by omega, by simp, HO2.out, HB2.out⟩
        case measure => simp [intOf]; omega
      · have hxv : seatR x = 97 + y % 26 := by unfold seatR; rw [HMX.out, HY.out]; simp
        have HX : Hid _ := hxv
        clear hxv
        go_wp2_with (at_builtin; refine wpList_app_int rfl _ _ rfl w.heap.size _ vs (.int .i64 ((97 + y % 26 : Nat) : Int)) rfl (Own.alloc HO.out _) _ rfl (by simp) rfl (by omega) (by simp; omega) ?_; intro v2 w4 hown2 hgrow2)
        have HO2 : Hid (Own w4 w.heap.size 3 v2 (iv ((l.take (k + 1)).map seatR))) := by show Own _ _ _ _ _; rw [HT.out, HX.out]; exact hown2
        have HB2 : Hid (Below w.heap.size w w4) := Own.below (Own.alloc HO.out _) hgrow2 (HB.out.alloc hg1 _) (by simp; omega)
        clear hown2 hgrow2
        go_wp2
        go_roundw
        case rel => exact ⟨k + 1, by omega, by simp, HO2.out, HB2.out⟩
        case measure => simp [intOf]; omega
      · have hxv : seatR x = 97 + y % 26 := by unfold seatR; rw [HMX.out, HY.out]; simp
        have HX : Hid _ := hxv
        clear hxv
        go_wp2_with (at_builtin; refine wpList_app_int rfl _ _ rfl w.heap.size _ vs (.int .i64 ((97 + y % 26 : Nat) : Int)) rfl (Own.alloc HO.out _) _ rfl (by simp) rfl (by omega) (by simp; omega) ?_; intro v2 w4 hown2 hgrow2)
        have HO2 : Hid (Own w4 w.heap.size 3 v2 (iv ((l.take (k + 1)).map seatR))) := by show Own _ _ _ _ _; rw [HT.out, HX.out]; exact hown2
        have HB2 : Hid (Below w.heap.size w w4) := Own.below (Own.alloc HO.out _) hgrow2 (HB.out.alloc hg1 _) (by simp; omega)
        clear hown2 hgrow2
        go_wp2
        go_roundw
        case rel => exact ⟨k + 1, by omega, by simp, HO2.out, HB2.out⟩
        case measure => simp [intOf]; omega
    · clear hbw hown
      have e : k = n := by omega
      subst e
      obtain ⟨ao', cp, hov, hc1, hc2, hnil, hrow⟩ := Own.shape HO.out
      have e2 : l.take k = l := List.take_of_length_le (by rw [← HN.out]; omega)
      rw [e2] at hov hc1 hrow
      rw [iv_len] at hov hc1
      have hml : (l.map seatR).length = k := by rw [List.length_map, ← HN.out]
      have HF : Hid _ := of_any ao' cp (l.map seatR) wr hrow (by
        intro r hr
        obtain ⟨x, _, rfl⟩ := List.mem_map.1 hr
        exact seatR_valid x) hc1 hc2 (by omega)
      rw [hml] at hov HF
      clear hrow hc1 hml e2
      subst hov
      go_wp2_with fail
      refine Calls.mono HF.out ?_
      rintro e w3 ⟨rfl, hb3⟩
      have HB3 : Hid _ := HB.out.trans (hb3.mono HB.out.size)
      clear hb3
      go_wp2
      go_ret
      exact ⟨rfl, HB3.out⟩
end Go.Proofs.YteockpllnhjooaaGreatDoor

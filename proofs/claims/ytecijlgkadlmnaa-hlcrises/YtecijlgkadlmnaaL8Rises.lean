/-
  The walk of HlcRises.
-/
import Derived.Test.YtecijlgkadlmnaaL8Known
import Derived.Test.YtecijlgkadlmnaaHlcLaws
import Derived.Test.YtecijlgkadlmnaaRiseMath
import Derived.Deep.Cut
namespace Go.Proofs.Ytecijlgkadlmnaa
open Go.RowKit NumMath
open StMath (St)
open HlcMath (Ck Rise Under)
set_option maxRecDepth 100000
set_option linter.unusedVariables false
set_option linter.unusedSimpArgs false

theorem bits32 (k i : Nat) (hk : k < 32) (hi : i ≤ 16) (x : Int) (h0 : 0 ≤ x) (h1 : x ≤ 4294967295) : bits .and .u32 (x / 2 ^ k) (2 ^ i - 1) = (x / 2 ^ k) % 2 ^ i := by
  obtain ⟨y, rfl⟩ : ∃ y : Nat, x = y := ⟨x.toNat, by omega⟩
  have hp : (2 : Nat) ^ i ≤ 2 ^ 16 := Nat.pow_le_pow_right (by omega) hi
  have hp0 : 0 < (2 : Nat) ^ i := Nat.pow_pos (by omega)
  have hm : ((2 : Int) ^ i - 1) = ((2 ^ i - 1 : Nat) : Int) := by
    have e : ((2 : Int) ^ i) = (((2 : Nat) ^ i : Nat) : Int) := by simp
    rw [e]; omega
  have hd : ((y : Int) / 2 ^ k) = ((y / 2 ^ k : Nat) : Int) := by simp
  have hle : y / 2 ^ k ≤ y := Nat.div_le_self _ _
  rw [hm, hd]
  show IntKind.u32.wrap ((BitVec.ofInt 32 ((y / 2 ^ k : Nat) : Int) &&& BitVec.ofInt 32 ((2 ^ i - 1 : Nat) : Int)).toNat : Nat) = _
  rw [BitVec.toNat_and]
  have a1 : (BitVec.ofInt 32 ((y / 2 ^ k : Nat) : Int)).toNat = y / 2 ^ k := by
    rw [BitVec.toNat_ofInt]
    generalize y / 2 ^ k = q at *
    omega
  have a2 : (BitVec.ofInt 32 ((2 ^ i - 1 : Nat) : Int)).toNat = 2 ^ i - 1 := by
    rw [BitVec.toNat_ofInt]; omega
  rw [a1, a2, Nat.and_two_pow_sub_one_eq_mod]
  have : y / 2 ^ k % 2 ^ i < 2 ^ i := Nat.mod_lt _ hp0
  have e : IntKind.u32.wrap ((y / 2 ^ k % 2 ^ i : Nat) : Int) = ((y / 2 ^ k % 2 ^ i : Nat) : Int) := by
    rw [IntKind.wrap_u32]; omega
  rw [e]
  simp

theorem b32a (x : Int) (h0 : 0 ≤ x) (h1 : x ≤ 4294967295) : bits .and .u32 (x / 4) 31 = x / 4 % 32 := by
  have := bits32 2 5 (by decide) (by decide) x h0 h1
  simpa using this
theorem b32b (x : Int) (h0 : 0 ≤ x) (h1 : x ≤ 4294967295) : bits .and .u32 (x / 256) 3 = x / 256 % 4 := by
  have := bits32 8 2 (by decide) (by decide) x h0 h1
  simpa using this
theorem b32c (x : Int) (h0 : 0 ≤ x) (h1 : x ≤ 4294967295) : bits .and .u32 (x / 1024) 63 = x / 1024 % 64 := by
  have := bits32 10 6 (by decide) (by decide) x h0 h1
  simpa using this
theorem b32d (x : Int) (h0 : 0 ≤ x) (h1 : x ≤ 4294967295) : bits .and .u32 x 3 = x % 4 := by
  have := bits32 0 2 (by decide) (by decide) x h0 h1
  simpa using this
theorem w64 {x : Int} (h0 : 0 ≤ x) (h1 : x ≤ 100) : wrap64 x = x := by unfold wrap64; omega

set_option maxRecDepth 100000 in
set_option maxHeartbeats 16000000 in
theorem hlcRises_walk (k : Int) (a : Option Addr) (zs : List Int) (cap : Nat) (W : World) (wk : (Lit.int .u8 k).wf = true) (hr : Row .u32 W a zs) (hc : zs.length ≤ cap) (hm : cap ≤ maxLen) (hn0 : a = none → cap = 0)
    (hw : ∀ n ∈ zs, (Lit.int .u32 n).wf = true) (hs : cap * 4 ≤ 140737488351232) :
    Calls Try.prog 4 #[.int .u8 k, .slice a zs.length cap] W fun e w' => e = .returned (.bool true) ∧ Below W.heap.size W w' := by
  have hkb := bounds_u8 wk
  have hzb := u32s' hw
  obtain ⟨n, hnn⟩ : ∃ n, n = zs.length := ⟨_, rfl⟩
  have HN : Hid (n = zs.length) := hnn
  rw [← hnn] at hc ⊢
  have HAT : Hid (∀ j, j < n → ∃ b off x, a = some ⟨b, off, none⟩ ∧ W.cell? ⟨b, off + j, none⟩ = some (.int .u32 x) ∧ 0 ≤ x ∧ x ≤ 4294967295) := fun j hj => by
    rcases hr with h | ⟨b, off, ha, hcell⟩
    · rw [h] at hnn; simp at hnn; omega
    · have hb := hzb (zs[j]?.getD 0) (mem_getD zs j (by omega))
      exact ⟨b, off, zs[j]?.getD 0, ha, by simpa using hcell j (by omega), hb.1, hb.2⟩
  clear hnn hw hr hzb hs hn0 wk
  obtain ⟨r, hrr⟩ : ∃ r, k % 64 = r := ⟨_, rfl⟩
  obtain ⟨m, hmm⟩ : ∃ m, k % 3 = m := ⟨_, rfl⟩
  have r0 : 0 ≤ r := by omega
  have r1 : r < 64 := by omega
  have m0 : 0 ≤ m := by omega
  have m1 : m ≤ 2 := by omega
  have HK : Hid _ := known8_any W
  go_enter Try.func4, Try.ntmps4
  go_wp2_with fail
  refine Calls.mono HK.out ?_
  rintro e w1 ⟨rfl, hb1⟩
  have HB1 : Hid _ := hb1
  clear hb1 HK
  by_cases hbig : 400 < n
  · go_wp2
    go_ret
    exact ⟨rfl, HB1.out⟩
  go_wp2_with fail
  refine Calls.mono (new_any r m 1048576 _) ?_
  rintro e w2 ⟨hb2, ⟨hk, _⟩ | ⟨hok, g, hg, rfl, hc2⟩⟩
  · exact absurd (newOk_iff.2 ⟨r0, r1, m0, by omega, by decide, by decide⟩ : newOk r m 1048576 = true) (by rw [hk]; decide)
  have HB2 : Hid (Below W.heap.size W w2) := HB1.out.trans (hb2.mono HB1.out.size)
  have HC2 : Hid (CkAt w2 g ⟨⟨0, 0, r⟩, m, 1048576⟩) := hc2
  have hgW : W.heap.size ≤ g := Nat.le_trans HB1.out.size hg
  clear hb2 hc2 hg HB1 hok
  go_upto_region 9 with (fail)
  have HX21 : Hid (StAt (w2.alloc (.cells #[.int .i64 0, .int .i64 0, .int .i64 0] 32)) w2.heap.size StMath.zero) := StAt.new w2 StMath.zero rfl
  have hlt_gl_C : g < w2.heap.size := HC2.out.lt
  have hle_gl : W.heap.size ≤ w2.heap.size := HB2.out.size
  have HC22 : Hid (CkAt ((w2.alloc (.cells #[.int .i64 0, .int .i64 0, .int .i64 0] 32)).setRow w2.heap.size (stL ⟨-1, 0, 0⟩).toArray) g ⟨⟨0, 0, r⟩, m, 1048576⟩) := CkAt.row_other (HC2.out.alloc _) _ (by omega)
  have HB23 : Hid (Below W.heap.size W ((w2.alloc (.cells #[.int .i64 0, .int .i64 0, .int .i64 0] 32)).setRow w2.heap.size (stL ⟨-1, 0, 0⟩).toArray)) := below_setRow (HB2.out.alloc HB2.out.size _) (by omega) _
  have HL24 : Hid (StAt ((w2.alloc (.cells #[.int .i64 0, .int .i64 0, .int .i64 0] 32)).setRow w2.heap.size (stL ⟨-1, 0, 0⟩).toArray) w2.heap.size ⟨-1, 0, 0⟩) := StAt.row HX21.out
  go_upto_region 10 with (first
    | refine wpList_store_st rfl (.tmp 8) (.tmp 36) rfl w2.heap.size StMath.zero ⟨-1, 0, 0⟩ rfl rfl HX21.out ?_)
  clear HC2 HB2 HX21
  generalize (w2.alloc (.cells #[.int .i64 0, .int .i64 0, .int .i64 0] 32)).setRow w2.heap.size (stL ⟨-1, 0, 0⟩).toArray = w25 at *
  generalize w2.heap.size = gl at *
  go_wp2
  go_loopw [9] (fun i wr => ∃ (j : Nat) (c : Ck) (low : St), j ≤ n ∧ i = .int .i64 j ∧ CkAt wr g c ∧ StAt wr gl low ∧ Rise c r m j ∧ Under low c ∧ Below W.heap.size W wr) (fun i _ => n - (intOf i).toNat)
  case atStart => exact ⟨0, _, _, by omega, rfl, HC22.out, HL24.out, HlcMath.rise_new, HlcMath.under_new, HB23.out⟩
  case round =>
    obtain ⟨j, c, low, hj, rfl, hC, hL, hR, hU, hB⟩ := hrel
    have HC : Hid (CkAt wr g c) := hC
    have HL : Hid (StAt wr gl low) := hL
    have HR : Hid (Rise c r m j) := hR
    have HU : Hid (Under low c) := hU
    have HB : Hid (Below W.heap.size W wr) := hB
    clear hC hL hR hU hB HC22 HL24 HB23
    have hjb : j ≤ 400 := by omega
    have HO : Hid (HlcMath.Ok c) := HR.out.ok (by omega) r0 r1 m0 m1
    by_cases hjn : j < n
    · obtain ⟨b, off, x, rfl, hx, hx0, hx1⟩ := HAT.out j hjn
      have hcx := cell_later hx HB.out
      have HX : Hid _ := hx
      clear hx
      obtain ⟨nw, e1⟩ : ∃ nw, bits .and .u32 (x / 4) 31 = nw := ⟨_, rfl⟩
      obtain ⟨l, e2⟩ : ∃ l, bits .and .u32 (x / 256) 3 = l := ⟨_, rfl⟩
      obtain ⟨q, e3⟩ : ∃ q, bits .and .u32 (x / 1024) 63 = q := ⟨_, rfl⟩
      obtain ⟨t, e4⟩ : ∃ t, bits .and .u32 x 3 = t := ⟨_, rfl⟩
      have n0 : 0 ≤ nw := by have := b32a x hx0 hx1; omega
      have n1 : nw ≤ 31 := by have := b32a x hx0 hx1; omega
      have l0 : 0 ≤ l := by have := b32b x hx0 hx1; omega
      have l1 : l ≤ 3 := by have := b32b x hx0 hx1; omega
      have q0 : 0 ≤ q := by have := b32c x hx0 hx1; omega
      have q1 : q < 64 := by have := b32c x hx0 hx1; omega
      have t0 : 0 ≤ t := by have := b32d x hx0 hx1; omega
      have t1 : t < 4 := by have := b32d x hx0 hx1; omega
      have e5 : wrap64 nw = nw := w64 n0 (by omega)
      have e6 : wrap64 l = l := w64 l0 (by omega)
      have e7 : wrap64 q = q := w64 q0 (by omega)
      have e8 : IntKind.i64.wrap l = l := wrap_small l0 (by omega)
      have e9 : IntKind.i64.wrap q = q := wrap_small q0 (by omega)
      clear HX
      go_upto_region 14 with (fail)
      rcases (by omega : t = 0 ∨ t = 1 ∨ (¬ t = 0 ∧ ¬ t = 1)) with rfl | rfl | ⟨h2, h3⟩
      · have HWt := HlcMath.rise_witness (s := ⟨nw, l, q⟩) HR.out n0 n1 rfl l0 l1 q0 q1
        dsimp only at HWt
        have HW : Hid (∀ w, CkAt w g c → _) := fun w hc => witness_any g c nw ⟨nw, l, q⟩ w hc HO.out
        rw [HWt.1, HWt.2] at HW
        unfold stV at HW
        dsimp only at HW
        clear HWt
        have HM : Hid (∀ g w, SRow w (some ⟨g, 0, none⟩) [low, ⟨nw, l, 63⟩] → _) := fun g w hr => refMax_any (some ⟨g, 0, none⟩) [low, ⟨nw, l, 63⟩] 2 w hr (Nat.le_refl _) (by decide)
        have HR' : Hid (Rise (HlcMath.raise c nw l) r m (j + 1)) := HlcMath.rise_raise HR.out n0 n1 l0 l1
        have HU' : Hid (Under (StMath.maxS [low, ⟨nw, l, 63⟩]) (HlcMath.raise c nw l)) := HlcMath.under_raise HU.out
        generalize StMath.maxS [low, ⟨nw, l, 63⟩] = low' at *
        generalize HlcMath.raise c nw l = c' at *
        unfold stV at HM
        clear HR HU HO
        go_wp2_with fail
        have HC51 : Hid (CkAt wr.drew g c) := HC.out.drew
        have HL52 : Hid (StAt wr.drew gl low) := HL.out.drew
        have HB53 : Hid (Below W.heap.size W wr.drew) := HB.out.drew
        clear HC HL HB
        have hcd : wr.drew.cell? ⟨b, off + j, none⟩ = some (.int .u32 x) := hcx
        refine wp_region_held_drew (S := fun w' => w'.cell? ⟨b, off + j, none⟩ = some (.int .u32 x)) (by kernel_rfl) hcd (fun hS => ?_)
        clear hcx hcd
        generalize wr.drew = v0 at *
        refine wpAnyH_take (i := 0) (v := ?_) rfl (by kernel_rfl) (by kernel_rfl) (by kernel_rfl) (fun _ _ _ h => h) (Or.inl ⟨by rfl, ?_⟩) hS ?_
        rotate_left 1
        · intro w hSw; (try dsimp only at hSw); go_simp <;> with_reducible rfl
        simp only [List.getElem_toArray, List.getElem_cons_zero, List.getElem_cons_succ, Act.put, List.setIfInBounds_toArray, List.set_cons_zero, List.set_cons_succ]
        refine wpAnyH_take (i := 1) (v := ?_) rfl (by kernel_rfl) (by kernel_rfl) (by kernel_rfl) (fun _ _ _ h => h) (Or.inl ⟨by rfl, ?_⟩) hS ?_
        rotate_left 1
        · intro w hSw; (try dsimp only at hSw); go_simp <;> with_reducible rfl
        simp only [List.getElem_toArray, List.getElem_cons_zero, List.getElem_cons_succ, Act.put, List.setIfInBounds_toArray, List.set_cons_zero, List.set_cons_succ]
        refine wpAnyH_take (i := 2) (v := ?_) rfl (by kernel_rfl) (by kernel_rfl) (by kernel_rfl) (fun _ _ _ h => h) (Or.inl ⟨by rfl, ?_⟩) hS ?_
        rotate_left 1
        · intro w hSw; (try dsimp only at hSw); go_simp <;> with_reducible rfl
        simp only [List.getElem_toArray, List.getElem_cons_zero, List.getElem_cons_succ, Act.put, List.setIfInBounds_toArray, List.set_cons_zero, List.set_cons_succ]
        refine wpAnyH_take (i := 3) (v := ?_) rfl (by kernel_rfl) (by kernel_rfl) (by kernel_rfl) (fun _ _ _ h => h) (Or.inl ⟨by rfl, ?_⟩) hS ?_
        rotate_left 1
        · intro w hSw; (try dsimp only at hSw); go_simp <;> with_reducible rfl
        simp only [List.getElem_toArray, List.getElem_cons_zero, List.getElem_cons_succ, Act.put, List.setIfInBounds_toArray, List.set_cons_zero, List.set_cons_succ]
        refine wpAnyH_take (i := 4) (v := ?_) rfl (by kernel_rfl) (by kernel_rfl) (by kernel_rfl) (fun _ _ _ h => h) (Or.inl ⟨by rfl, ?_⟩) hS ?_
        rotate_left 1
        · intro w hSw; (try dsimp only at hSw); go_simp <;> with_reducible rfl
        simp only [List.getElem_toArray, List.getElem_cons_zero, List.getElem_cons_succ, Act.put, List.setIfInBounds_toArray, List.set_cons_zero, List.set_cons_succ]
        refine wpAnyH_take (i := 5) (v := ?_) rfl (by kernel_rfl) (by kernel_rfl) (by kernel_rfl) (fun _ _ _ h => h) (Or.inl ⟨by rfl, ?_⟩) hS ?_
        rotate_left 1
        · intro w hSw; (try dsimp only at hSw); go_simp <;> with_reducible rfl
        simp only [List.getElem_toArray, List.getElem_cons_zero, List.getElem_cons_succ, Act.put, List.setIfInBounds_toArray, List.set_cons_zero, List.set_cons_succ]
        refine wpAnyH_take (i := 6) (v := ?_) rfl (by kernel_rfl) (by kernel_rfl) (by kernel_rfl) (fun _ _ _ h => h) (Or.inl ⟨by rfl, ?_⟩) hS ?_
        rotate_left 1
        · intro w hSw; (try dsimp only at hSw); go_simp <;> with_reducible rfl
        simp only [List.getElem_toArray, List.getElem_cons_zero, List.getElem_cons_succ, Act.put, List.setIfInBounds_toArray, List.set_cons_zero, List.set_cons_succ]
        refine wpAnyH_take (i := 7) (v := ?_) rfl (by kernel_rfl) (by kernel_rfl) (by kernel_rfl) (fun _ _ _ h => h) (Or.inl ⟨by rfl, ?_⟩) hS ?_
        rotate_left 1
        · intro w hSw; (try dsimp only at hSw); go_simp <;> with_reducible rfl
        simp only [List.getElem_toArray, List.getElem_cons_zero, List.getElem_cons_succ, Act.put, List.setIfInBounds_toArray, List.set_cons_zero, List.set_cons_succ]
        refine wpAnyH_take (i := 8) (v := ?_) rfl (by kernel_rfl) (by kernel_rfl) (by kernel_rfl) (fun _ _ _ h => h) (Or.inl ⟨by rfl, ?_⟩) hS ?_
        rotate_left 1
        · intro w hSw; (try dsimp only at hSw); go_simp <;> with_reducible rfl
        simp only [List.getElem_toArray, List.getElem_cons_zero, List.getElem_cons_succ, Act.put, List.setIfInBounds_toArray, List.set_cons_zero, List.set_cons_succ]
        refine wpAnyH_take (i := 9) (v := ?_) rfl (by kernel_rfl) (by kernel_rfl) (by kernel_rfl) (fun _ _ _ h => h) (Or.inl ⟨by rfl, ?_⟩) hS ?_
        rotate_left 1
        · intro w hSw; (try dsimp only at hSw); go_simp <;> with_reducible rfl
        simp only [List.getElem_toArray, List.getElem_cons_zero, List.getElem_cons_succ, Act.put, List.setIfInBounds_toArray, List.set_cons_zero, List.set_cons_succ]
        refine wpAnyH_take (i := 10) (v := ?_) rfl (by kernel_rfl) (by kernel_rfl) (by kernel_rfl) (fun _ _ _ h => h) (Or.inl ⟨by rfl, ?_⟩) hS ?_
        rotate_left 1
        · intro w hSw; (try dsimp only at hSw); go_simp <;> with_reducible rfl
        simp only [List.getElem_toArray, List.getElem_cons_zero, List.getElem_cons_succ, Act.put, List.setIfInBounds_toArray, List.set_cons_zero, List.set_cons_succ]
        refine wpAnyH_take (i := 11) (v := ?_) rfl (by kernel_rfl) (by kernel_rfl) (by kernel_rfl) (fun _ _ _ h => h) (Or.inl ⟨by rfl, ?_⟩) hS ?_
        rotate_left 1
        · intro w hSw; (try dsimp only at hSw); go_simp <;> with_reducible rfl
        simp only [List.getElem_toArray, List.getElem_cons_zero, List.getElem_cons_succ, Act.put, List.setIfInBounds_toArray, List.set_cons_zero, List.set_cons_succ]
        refine wpAnyH_take (i := 12) (v := ?_) rfl (by kernel_rfl) (by kernel_rfl) (by kernel_rfl) (fun _ _ _ h => h) (Or.inl ⟨by rfl, ?_⟩) hS ?_
        rotate_left 1
        · intro w hSw; (try dsimp only at hSw); go_simp <;> with_reducible rfl
        simp only [List.getElem_toArray, List.getElem_cons_zero, List.getElem_cons_succ, Act.put, List.setIfInBounds_toArray, List.set_cons_zero, List.set_cons_succ]
        refine wpAnyH_take (i := 13) (v := ?_) rfl (by kernel_rfl) (by kernel_rfl) (by kernel_rfl) (fun _ _ _ h => h) (Or.inl ⟨by rfl, ?_⟩) hS ?_
        rotate_left 1
        · intro w hSw; (try dsimp only at hSw); go_simp <;> with_reducible rfl
        simp only [List.getElem_toArray, List.getElem_cons_zero, List.getElem_cons_succ, Act.put, List.setIfInBounds_toArray, List.set_cons_zero, List.set_cons_succ]
        refine wpAnyH_take (i := 14) (v := ?_) rfl (by kernel_rfl) (by kernel_rfl) (by kernel_rfl) (fun _ _ _ h => h) (Or.inl ⟨by rfl, ?_⟩) hS ?_
        rotate_left 1
        · intro w hSw; (try dsimp only at hSw); go_simp <;> with_reducible rfl
        simp only [List.getElem_toArray, List.getElem_cons_zero, List.getElem_cons_succ, Act.put, List.setIfInBounds_toArray, List.set_cons_zero, List.set_cons_succ]
        refine wpAnyH_take (i := 15) (v := ?_) rfl (by kernel_rfl) (by kernel_rfl) (by kernel_rfl) (fun _ _ _ h => h) (Or.inl ⟨by rfl, ?_⟩) hS ?_
        rotate_left 1
        · intro w hSw; (try dsimp only at hSw); go_simp <;> with_reducible rfl
        simp only [List.getElem_toArray, List.getElem_cons_zero, List.getElem_cons_succ, Act.put, List.setIfInBounds_toArray, List.set_cons_zero, List.set_cons_succ]
        refine wpAnyH_ready (rs := [16]) (by kernel_rfl) (by simp) ?_
        refine AllReadyH.cons rfl (fun K hK => ?_) AllReadyH.nil
        go_simp
        have HX0 : Hid (StAt (v0.alloc (.cells #[.int .i64 0, .int .i64 0, .int .i64 0] 32)) v0.heap.size StMath.zero) := StAt.new v0 StMath.zero rfl
        have hlt_gx_C : g < v0.heap.size := HC51.out.lt
        have hlt_gx_L : gl < v0.heap.size := HL52.out.lt
        have hle_gx : W.heap.size ≤ v0.heap.size := HB53.out.size
        have hbl := World.block_lt_of_cell? _ _ hS
        have hS2 : (v0.alloc (.cells #[.int .i64 0, .int .i64 0, .int .i64 0] 32)).cell? ⟨b, off + j, none⟩ = some (.int .u32 x) := cell_later hS ((Below.refl _ _).alloc (Nat.le_refl _) _)
        have hS3 : ((v0.alloc (.cells #[.int .i64 0, .int .i64 0, .int .i64 0] 32)).setRow v0.heap.size (stL ⟨nw, l, q⟩).toArray).cell? ⟨b, off + j, none⟩ = some (.int .u32 x) := by rw [cell_setRow_other _ _ _ _ (by show b ≠ v0.heap.size; have : b < v0.heap.size := hbl; omega)]; exact hS2
        have HC54 : Hid (CkAt ((v0.alloc (.cells #[.int .i64 0, .int .i64 0, .int .i64 0] 32)).setRow v0.heap.size (stL ⟨nw, l, q⟩).toArray) g c) := CkAt.row_other (HC51.out.alloc _) _ (by omega)
        have HL55 : Hid (StAt ((v0.alloc (.cells #[.int .i64 0, .int .i64 0, .int .i64 0] 32)).setRow v0.heap.size (stL ⟨nw, l, q⟩).toArray) gl low) := StAt.row_other (HL52.out.alloc _) _ (by omega)
        have HB56 : Hid (Below W.heap.size W ((v0.alloc (.cells #[.int .i64 0, .int .i64 0, .int .i64 0] 32)).setRow v0.heap.size (stL ⟨nw, l, q⟩).toArray)) := below_setRow (HB53.out.alloc HB53.out.size _) (by omega) _
        have HX57 : Hid (StAt ((v0.alloc (.cells #[.int .i64 0, .int .i64 0, .int .i64 0] 32)).setRow v0.heap.size (stL ⟨nw, l, q⟩).toArray) v0.heap.size ⟨nw, l, q⟩) := StAt.row HX0.out
        clear HC51 HL52 HB53
        refine hK.out _ _ hS2 (fun hS => ?_)
        clear hK K
        refine wpAnyH_ready (rs := [17]) (by kernel_rfl) (by simp) ?_
        refine AllReadyH.cons rfl (fun K hK => ?_) AllReadyH.nil
        refine wp_store_st (.tmp 11) (.tmp 117) rfl v0.heap.size StMath.zero ⟨nw, l, q⟩ rfl rfl HX0.out ?_
        refine hK.out _ _ hS3 (fun hS => ?_)
        clear hK K HX0 hS2 hbl
        refine wpAnyH_done (by kernel_rfl) ?_ _
        generalize (v0.alloc (.cells #[.int .i64 0, .int .i64 0, .int .i64 0] 32)).setRow v0.heap.size (stL ⟨nw, l, q⟩).toArray = wx at *
        generalize v0.heap.size = gx at *
        clear hS hS3
        obtain ⟨X_0, X_1, X_2⟩ := HX57.out.cells
        go_wp2_with fail
        refine Calls.mono (HW.out _ HC54.out) ?_
        rintro e w58 ⟨rfl, hc58, hg58⟩
        have HC59 : Hid (CkAt w58 g c') := hc58
        have HL60 : Hid (StAt w58 gl low) := HL55.out.grown hg58 (by omega)
        have HX61 : Hid (StAt w58 gx ⟨nw, l, q⟩) := HX57.out.grown hg58 (by omega)
        have HB62 : Hid (Below W.heap.size W w58) := below_gr HB56.out hg58 HB56.out.size (by omega)
        clear HC54 HL55 HX57 HB56 hc58 hg58
        clear X_0 X_1 X_2
        obtain ⟨L_0, L_1, L_2⟩ := HL60.out.cells
        obtain ⟨X_0, X_1, X_2⟩ := HX61.out.cells
        go_wp2_with fail
        have HRw : Hid (SRow (w58.alloc (.cells #[.int .i64 low.p, .int .i64 low.l, .int .i64 low.r, .int .i64 nw, .int .i64 l, .int .i64 63] 32)) (some ⟨w58.heap.size, 0, none⟩) [low, ⟨nw, l, 63⟩]) := lit2_srow w58 low ⟨nw, l, 63⟩ rfl
        have HC63 : Hid (CkAt (w58.alloc (.cells #[.int .i64 low.p, .int .i64 low.l, .int .i64 low.r, .int .i64 nw, .int .i64 l, .int .i64 63] 32)) g c') := HC59.out.alloc _
        have HL64 : Hid (StAt (w58.alloc (.cells #[.int .i64 low.p, .int .i64 low.l, .int .i64 low.r, .int .i64 nw, .int .i64 l, .int .i64 63] 32)) gl low) := HL60.out.alloc _
        have HX65 : Hid (StAt (w58.alloc (.cells #[.int .i64 low.p, .int .i64 low.l, .int .i64 low.r, .int .i64 nw, .int .i64 l, .int .i64 63] 32)) gx ⟨nw, l, q⟩) := HX61.out.alloc _
        have HB66 : Hid (Below W.heap.size W (w58.alloc (.cells #[.int .i64 low.p, .int .i64 low.l, .int .i64 low.r, .int .i64 nw, .int .i64 l, .int .i64 63] 32))) := HB62.out.alloc HB62.out.size _
        clear HC59 HL60 HX61 HB62
        refine Calls.mono (HM.out _ _ HRw.out) ?_
        rintro e w67 ⟨rfl, hb67⟩
        have HC68 : Hid (CkAt w67 g c') := HC63.out.later hb67 HC63.out.lt
        have HL69 : Hid (StAt w67 gl low) := HL64.out.later hb67 HL64.out.lt
        have HX70 : Hid (StAt w67 gx ⟨nw, l, q⟩) := HX65.out.later hb67 HX65.out.lt
        have HB71 : Hid (Below W.heap.size W w67) := HB66.out.trans (hb67.mono HB66.out.size)
        clear HC63 HL64 HX65 HB66 hb67
        clear HRw
        have hne_C : g ≠ gl := by omega
        have hne_X : gx ≠ gl := by omega
        have HC72 : Hid (CkAt (w67.setRow gl (stL low').toArray) g c') := CkAt.row_other HC68.out _ (by omega)
        have HL73 : Hid (StAt (w67.setRow gl (stL low').toArray) gl low') := StAt.row HL69.out
        have HX74 : Hid (StAt (w67.setRow gl (stL low').toArray) gx ⟨nw, l, q⟩) := StAt.row_other HX70.out _ (by omega)
        have HB75 : Hid (Below W.heap.size W (w67.setRow gl (stL low').toArray)) := below_setRow HB71.out (by omega) _
        go_wp2_with (refine wpList_store_st rfl (.tmp 8) (.tmp 130) rfl gl low low' rfl rfl HL69.out ?_)
        clear HC68 HL69 HX70 HB71
        clear L_0 L_1 L_2 X_0 X_1 X_2
        go_roundw
        case rel => exact ⟨j + 1, c', low', by omega, by go_num, HC72.out, HL73.out, HR'.out, HU'.out, HB75.out⟩
        case measure => simp [intOf]; omega
      · have HFl := HlcMath.rise_floor HR.out n0 n1
        have HW : Hid (∀ w, CkAt w g c → _) := fun w hc => floor_any g c nw w hc
        rw [HFl] at HW
        clear HFl
        have HM : Hid (∀ g w, SRow w (some ⟨g, 0, none⟩) [low, ⟨nw, m, 63⟩] → _) := fun g w hr => refMax_any (some ⟨g, 0, none⟩) [low, ⟨nw, m, 63⟩] 2 w hr (Nat.le_refl _) (by decide)
        have HR' : Hid (Rise (HlcMath.raise c nw m) r m (j + 1)) := HlcMath.rise_raise HR.out n0 n1 m0 (by omega)
        have HU' : Hid (Under (StMath.maxS [low, ⟨nw, m, 63⟩]) (HlcMath.raise c nw m)) := HlcMath.under_raise HU.out
        generalize StMath.maxS [low, ⟨nw, m, 63⟩] = low' at *
        generalize HlcMath.raise c nw m = c' at *
        unfold stV at HM
        clear HR HU HO
        go_wp2_with fail
        refine Calls.mono (HW.out _ HC.out) ?_
        rintro e w51 ⟨rfl, hc51, hg51⟩
        have HC52 : Hid (CkAt w51 g c') := hc51
        have HL53 : Hid (StAt w51 gl low) := HL.out.grown hg51 (by omega)
        have HB54 : Hid (Below W.heap.size W w51) := below_gr HB.out hg51 HB.out.size (by omega)
        clear HC HL HB hc51 hg51
        clear hcx
        obtain ⟨L_0, L_1, L_2⟩ := HL53.out.cells
        go_wp2_with fail
        have HRw : Hid (SRow (w51.alloc (.cells #[.int .i64 low.p, .int .i64 low.l, .int .i64 low.r, .int .i64 nw, .int .i64 m, .int .i64 63] 32)) (some ⟨w51.heap.size, 0, none⟩) [low, ⟨nw, m, 63⟩]) := lit2_srow w51 low ⟨nw, m, 63⟩ rfl
        have HC55 : Hid (CkAt (w51.alloc (.cells #[.int .i64 low.p, .int .i64 low.l, .int .i64 low.r, .int .i64 nw, .int .i64 m, .int .i64 63] 32)) g c') := HC52.out.alloc _
        have HL56 : Hid (StAt (w51.alloc (.cells #[.int .i64 low.p, .int .i64 low.l, .int .i64 low.r, .int .i64 nw, .int .i64 m, .int .i64 63] 32)) gl low) := HL53.out.alloc _
        have HB57 : Hid (Below W.heap.size W (w51.alloc (.cells #[.int .i64 low.p, .int .i64 low.l, .int .i64 low.r, .int .i64 nw, .int .i64 m, .int .i64 63] 32))) := HB54.out.alloc HB54.out.size _
        clear HC52 HL53 HB54
        refine Calls.mono (HM.out _ _ HRw.out) ?_
        rintro e w58 ⟨rfl, hb58⟩
        have HC59 : Hid (CkAt w58 g c') := HC55.out.later hb58 HC55.out.lt
        have HL60 : Hid (StAt w58 gl low) := HL56.out.later hb58 HL56.out.lt
        have HB61 : Hid (Below W.heap.size W w58) := HB57.out.trans (hb58.mono HB57.out.size)
        clear HC55 HL56 HB57 hb58
        clear HRw
        have hne_C : g ≠ gl := by omega
        have HC62 : Hid (CkAt (w58.setRow gl (stL low').toArray) g c') := CkAt.row_other HC59.out _ (by omega)
        have HL63 : Hid (StAt (w58.setRow gl (stL low').toArray) gl low') := StAt.row HL60.out
        have HB64 : Hid (Below W.heap.size W (w58.setRow gl (stL low').toArray)) := below_setRow HB61.out (by omega) _
        go_wp2_with (refine wpList_store_st rfl (.tmp 8) (.tmp 141) rfl gl low low' rfl rfl HL60.out ?_)
        clear HC59 HL60 HB61
        clear L_0 L_1 L_2
        go_roundw
        case rel => exact ⟨j + 1, c', low', by omega, by go_num, HC62.out, HL63.out, HR'.out, HU'.out, HB64.out⟩
        case measure => simp [intOf]; omega
      · have hb2 : (t == 0) = false := by simp [h2]
        have hb3 : (t == 1) = false := by simp [h3]
        obtain ⟨s, hpk, hnx, hRi, hls, hns, hsr, hsl, hUn⟩ := HlcMath.rise_next HR.out HU.out (by omega) r0 r1 m0 m1 n0 n1
        have HW : Hid (∀ w, CkAt w g c → _) := fun w hc => next_any g c nw w hc HO.out
        rw [hpk, hnx] at HW
        unfold stV at HW
        dsimp only at HW
        have HR' : Hid _ := hRi
        have HU' : Hid (Under ⟨s.p, s.l, 63⟩ ⟨s, m, 1048576⟩) := hUn
        have HLe : Hid (∀ w, _) := fun w => refLess_any low s w
        rw [hls] at HLe
        unfold stV at HLe
        have HLa : Hid (∀ w, CkAt w g ⟨s, m, 1048576⟩ → _) := fun w hc => last_any g ⟨s, m, 1048576⟩ w hc
        unfold stV at HLa
        dsimp only at HLa
        obtain ⟨sp, sl, sr⟩ := s
        dsimp only at hns hsr hsl HW HLe HLa
        subst hsr
        have hd1 : decide (sp < nw) = false := by simp; omega
        have hd2 : decide (m < sl) = false := by simp; omega
        clear hpk hnx hRi hls hUn HR HU HO h2 h3 hns hsl
        go_wp2_with fail
        refine Calls.mono (HW.out _ HC.out) ?_
        rintro e w51 ⟨rfl, hc51, hg51⟩
        have HC52 : Hid (CkAt w51 g ⟨⟨sp, sl, sr⟩, m, 1048576⟩) := hc51
        have HL53 : Hid (StAt w51 gl low) := HL.out.grown hg51 (by omega)
        have HB54 : Hid (Below W.heap.size W w51) := below_gr HB.out hg51 HB.out.size (by omega)
        clear HC HL HB hc51 hg51
        clear hcx
        have HX55 : Hid (StAt (w51.alloc (.cells #[.int .i64 0, .int .i64 0, .int .i64 0] 32)) w51.heap.size StMath.zero) := StAt.new w51 StMath.zero rfl
        have hlt_gx_C : g < w51.heap.size := HC52.out.lt
        have hlt_gx_L : gl < w51.heap.size := HL53.out.lt
        have hle_gx : W.heap.size ≤ w51.heap.size := HB54.out.size
        have HC56 : Hid (CkAt ((w51.alloc (.cells #[.int .i64 0, .int .i64 0, .int .i64 0] 32)).setRow w51.heap.size (stL ⟨sp, sl, sr⟩).toArray) g ⟨⟨sp, sl, sr⟩, m, 1048576⟩) := CkAt.row_other (HC52.out.alloc _) _ (by omega)
        have HL57 : Hid (StAt ((w51.alloc (.cells #[.int .i64 0, .int .i64 0, .int .i64 0] 32)).setRow w51.heap.size (stL ⟨sp, sl, sr⟩).toArray) gl low) := StAt.row_other (HL53.out.alloc _) _ (by omega)
        have HB58 : Hid (Below W.heap.size W ((w51.alloc (.cells #[.int .i64 0, .int .i64 0, .int .i64 0] 32)).setRow w51.heap.size (stL ⟨sp, sl, sr⟩).toArray)) := below_setRow (HB54.out.alloc HB54.out.size _) (by omega) _
        have HX59 : Hid (StAt ((w51.alloc (.cells #[.int .i64 0, .int .i64 0, .int .i64 0] 32)).setRow w51.heap.size (stL ⟨sp, sl, sr⟩).toArray) w51.heap.size ⟨sp, sl, sr⟩) := StAt.row HX55.out
        go_upto_region 16 with (first
          | refine wpList_store_st rfl (.tmp 12) (.tmp 59) rfl w51.heap.size StMath.zero ⟨sp, sl, sr⟩ rfl rfl HX55.out ?_)
        clear HC52 HL53 HB54 HX55
        generalize (w51.alloc (.cells #[.int .i64 0, .int .i64 0, .int .i64 0] 32)).setRow w51.heap.size (stL ⟨sp, sl, sr⟩).toArray = w60 at *
        generalize w51.heap.size = gx at *
        have HLem : Hid (∀ u : Grown1 w60, _) := fun u => HLe.out u.w
        have HLam : Hid (∀ u : Grown1 w60, _) := fun u => HLa.out u.w (HC56.out.later u.below HC56.out.lt)
        have hne : Nonempty (Grown1 w60) := ⟨⟨w60, Below.refl _ _⟩⟩
        obtain ⟨L_0, L_1, L_2⟩ := HL57.out.cells
        have L_0' := fun m : Grown1 w60 => grown1_cell L_0 m
        have L_1' := fun m : Grown1 w60 => grown1_cell L_1 m
        have L_2' := fun m : Grown1 w60 => grown1_cell L_2 m
        clear L_0 L_1 L_2
        obtain ⟨X_0, X_1, X_2⟩ := HX59.out.cells
        have X_0' := fun m : Grown1 w60 => grown1_cell X_0 m
        have X_1' := fun m : Grown1 w60 => grown1_cell X_1 m
        have X_2' := fun m : Grown1 w60 => grown1_cell X_2 m
        clear X_0 X_1 X_2
        dsimp only at X_0' X_1' X_2'
        (try simp only [Act.put])
        refine wp_region_grow (by kernel_rfl) (by kernel_rfl) ?_
        repeat (go_big_quiet_step (first | with_reducible exact grown1_call _ (HLem.out _) | with_reducible exact grown1_call _ (HLam.out _) | fail))
        refine wpQuiet_nil ?_
        intro _ hw'
        obtain ⟨n1, hw''⟩ := hw'
        subst hw''
        have HC61 : Hid (CkAt n1.w g ⟨⟨sp, sl, sr⟩, m, 1048576⟩) := HC56.out.later n1.below HC56.out.lt
        have HL62 : Hid (StAt n1.w gl low) := HL57.out.later n1.below HL57.out.lt
        have HX63 : Hid (StAt n1.w gx ⟨sp, sl, sr⟩) := HX59.out.later n1.below HX59.out.lt
        have HB64 : Hid (Below W.heap.size W n1.w) := HB58.out.trans (n1.below.mono HB58.out.size)
        clear HC56 HL57 HX59 HB58 L_0' L_1' L_2' X_0' X_1' X_2' HLem HLam
        generalize n1.w = w65 at *
        clear hne n1
        obtain ⟨X_0, X_1, X_2⟩ := HX63.out.cells
        dsimp only at X_0 X_1 X_2
        have HC66 : Hid (CkAt (w65.setRow gl (stL ⟨sp, sl, 63⟩).toArray) g ⟨⟨sp, sl, sr⟩, m, 1048576⟩) := CkAt.row_other HC61.out _ (by omega)
        have HL67 : Hid (StAt (w65.setRow gl (stL ⟨sp, sl, 63⟩).toArray) gl ⟨sp, sl, 63⟩) := StAt.row HL62.out
        have HX68 : Hid (StAt (w65.setRow gl (stL ⟨sp, sl, 63⟩).toArray) gx ⟨sp, sl, sr⟩) := StAt.row_other HX63.out _ (by omega)
        have HB69 : Hid (Below W.heap.size W (w65.setRow gl (stL ⟨sp, sl, 63⟩).toArray)) := below_setRow HB64.out (by omega) _
        go_wp2_with (refine wpList_store_st rfl (.tmp 8) (.tmp 99) rfl gl low ⟨sp, sl, 63⟩ rfl rfl HL62.out ?_)
        clear HC61 HL62 HX63 HB64 X_0 X_1 X_2
        go_roundw
        case rel => exact ⟨j + 1, _, _, by omega, by go_num, HC66.out, HL67.out, HR'.out, (by have := HU'.out; exact this), HB69.out⟩
        case measure => simp [intOf]; omega
    · have hjk : j = n := by omega
      have hdk : decide ((j : Int) < (n : Int)) = false := by simp; omega
      go_wp2
      go_ret
      exact ⟨rfl, HB.out⟩
end Go.Proofs.Ytecijlgkadlmnaa

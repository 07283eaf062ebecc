/-
  The walk of the law CrcLinear: the checksum of what three texts of one length make, bit against bit, is what theirs make.
-/
import Derived.Test.YtpffjeoiacaihaaDoorL2Lit
import Derived.Test.YtpffjeoiacaihaaDoorL2LinM
import Derived.Laws.Cover1
import Derived.Test.YtpffjeoiacaihaaDoorRegInv
namespace Go.Proofs.YtpffjeoiacaihaaDoor
open Go.RowKit NumMath
set_option maxRecDepth 100000
set_option linter.unusedVariables false
set_option linter.unusedSimpArgs false

/-- A literal of one part. -/
def OneLit (w : World) (x : Value) (p : Part) : Prop := ∃ g, x = .slice (some ⟨g, 0, none⟩) 1 1 ∧ Parts w (some ⟨g, 0, none⟩) [p]
theorem OneLit.later {w w' : World} {x : Value} {p : Part} (h : OneLit w x p) (hb : Below w.heap.size w w') : OneLit w' x p := by
  obtain ⟨g, hx, hp⟩ := h
  exact ⟨g, hx, hp.later hb⟩

theorem one_lit (w : World) (p : Part) (v : Value) (hv : v = p.val) (h : p.ok w) : Parts (w.alloc (.cells #[v] 24)) (some ⟨w.heap.size, 0, none⟩) [p] := by
  subst hv
  exact lit_parts w [p] 24 _ rfl (by intro q hq; simp only [List.mem_singleton] at hq; subst hq; exact h)

set_option maxHeartbeats 1600000 in
theorem crcLinear_walk (a0 : Option Addr) (A : List Int) (cap0 : Nat) (a1 : Option Addr) (B : List Int) (cap1 : Nat) (a2 : Option Addr) (C : List Int) (cap2 : Nat) (W : World) (ht : Tab W)
    (hr0 : Row .u8 W a0 A) (hc0 : A.length ≤ cap0) (hm0 : cap0 ≤ maxLen) (hn0 : a0 = none → cap0 = 0) (hw0 : ∀ n ∈ A, (Lit.int .u8 n).wf = true) (hs0 : cap0 * 1 ≤ 140737488351232)
    (hr1 : Row .u8 W a1 B) (hc1 : B.length ≤ cap1) (hm1 : cap1 ≤ maxLen) (hn1 : a1 = none → cap1 = 0) (hw1 : ∀ n ∈ B, (Lit.int .u8 n).wf = true) (hs1 : cap1 * 1 ≤ 140737488351232)
    (hr2 : Row .u8 W a2 C) (hc2 : C.length ≤ cap2) (hm2 : cap2 ≤ maxLen) (hn2 : a2 = none → cap2 = 0) (hw2 : ∀ n ∈ C, (Lit.int .u8 n).wf = true) (hs2 : cap2 * 1 ≤ 140737488351232) :
    Calls Tryd.prog 5 #[.slice a0 A.length cap0, .slice a1 B.length cap1, .slice a2 C.length cap2] W fun e w' => e = .returned (.bool true) ∧ Below W.heap.size W w' := by
  obtain ⟨i0, hi, hz0, hz1, hz2⟩ := info_parts Tryd.info5
  have hb0 := u8s hw0
  have hb1 := u8s hw1
  have hb2 := u8s hw2
  clear hw0 hw1 hw2
  obtain ⟨n, hn⟩ : ∃ n : Nat, n = min (min A.length B.length) C.length := ⟨_, rfl⟩
  have hnA : n ≤ A.length := by omega
  have hnB : n ≤ B.length := by omega
  have hnC : n ≤ C.length := by omega
  obtain ⟨la, hla⟩ : ∃ n, n = A.length := ⟨_, rfl⟩
  obtain ⟨lb, hlb⟩ : ∃ n, n = B.length := ⟨_, rfl⟩
  obtain ⟨lc, hlc⟩ : ∃ n, n = C.length := ⟨_, rfl⟩
  rw [← hla, ← hlb, ← hlc] at hn ⊢
  have HLA : Hid (la = A.length) := hla
  have HLB : Hid (lb = B.length) := hlb
  have HLC : Hid (lc = C.length) := hlc
  rw [← hla] at hc0 hnA
  rw [← hlb] at hc1 hnB
  rw [← hlc] at hc2 hnC
  have hmin : ∀ w, (Builtin.min_ #[3, 3, 3] 3 #[.int .i64 (la : Int), .int .i64 (lb : Int), .int .i64 (lc : Int)]).run Tryd.prog w = .ok (.int .i64 (n : Int)) w := by
    intro w
    rw [run_min_int3, show (if (lc : Int) < (if (lb : Int) < (la : Int) then (lb : Int) else (la : Int)) then (lc : Int) else (if (lb : Int) < (la : Int) then (lb : Int) else (la : Int))) = (n : Int) by split <;> split at * <;> omega]
  have hA' : (n : Int) ≤ (la : Int) := by omega
  have hA'' : (n : Int) ≤ (cap0 : Int) := by omega
  have hB' : (n : Int) ≤ (lb : Int) := by omega
  have hB'' : (n : Int) ≤ (cap1 : Int) := by omega
  have hC' : (n : Int) ≤ (lc : Int) := by omega
  have hC'' : (n : Int) ≤ (cap2 : Int) := by omega
  -- the first n bytes of each
  obtain ⟨A', hA1⟩ : ∃ l, l = A.take n := ⟨_, rfl⟩
  obtain ⟨B', hB1'⟩ : ∃ l, l = B.take n := ⟨_, rfl⟩
  obtain ⟨C', hC1⟩ : ∃ l, l = C.take n := ⟨_, rfl⟩
  have hrA : Row .u8 W a0 A' := by rw [hA1]; exact hr0.take n
  have hrB : Row .u8 W a1 B' := by rw [hB1']; exact hr1.take n
  have hrC : Row .u8 W a2 C' := by rw [hC1]; exact hr2.take n
  have hlA : A'.length = n := by rw [hA1, List.length_take]; omega
  have hlB : B'.length = n := by rw [hB1', List.length_take]; omega
  have hlC : C'.length = n := by rw [hC1, List.length_take]; omega
  have hbA : ∀ c ∈ A', 0 ≤ c ∧ c ≤ 255 := by rw [hA1]; exact bytes_take hb0 n
  have hbB : ∀ c ∈ B', 0 ≤ c ∧ c ≤ 255 := by rw [hB1']; exact bytes_take hb1 n
  have hbC : ∀ c ∈ C', 0 ≤ c ∧ c ≤ 255 := by rw [hC1]; exact bytes_take hb2 n
  have hlin := crc_linear hbA hbB hbC (by omega) (by omega)
  rw [hlA] at hlin
  have HLIN : Hid _ := hlin
  have HLA' : Hid (A'.length = n) := hlA
  have HLB' : Hid (B'.length = n) := hlB
  have HLC' : Hid (C'.length = n) := hlC
  have hnl0 : a0 = none → n = 0 ∧ cap0 = 0 := fun h => by have := hn0 h; omega
  have HNL0 : Hid _ := hnl0
  have hat : ∀ w1, Below W.heap.size W w1 → ∀ j, j < n → ∃ b0 o0 b1 o1 b2 o2, a0 = some ⟨b0, o0, none⟩ ∧ a1 = some ⟨b1, o1, none⟩ ∧ a2 = some ⟨b2, o2, none⟩ ∧ b0 < W.heap.size ∧ b1 < W.heap.size ∧ b2 < W.heap.size ∧
      w1.cell? ⟨b0, o0 + j, none⟩ = some (.int .u8 (A'[j]?.getD 0)) ∧ w1.cell? ⟨b1, o1 + j, none⟩ = some (.int .u8 (B'[j]?.getD 0)) ∧ w1.cell? ⟨b2, o2 + j, none⟩ = some (.int .u8 (C'[j]?.getD 0)) := by
    intro w1 hB j hj
    rcases hrA with h | ⟨b0, o0, e0, k0⟩
    · rw [h] at hlA; simp at hlA; omega
    rcases hrB with h | ⟨b1, o1, e1, k1⟩
    · rw [h] at hlB; simp at hlB; omega
    rcases hrC with h | ⟨b2, o2, e2, k2⟩
    · rw [h] at hlC; simp at hlC; omega
    have q0 := k0 j (by omega)
    have q1 := k1 j (by omega)
    have q2 := k2 j (by omega)
    have l0 := World.block_lt_of_cell? W _ q0
    have l1 := World.block_lt_of_cell? W _ q1
    have l2 := World.block_lt_of_cell? W _ q2
    refine ⟨b0, o0, b1, o1, b2, o2, e0, e1, e2, l0, l1, l2, ?_, ?_, ?_⟩
    · rw [hB.cell l0, q0, List.getD_eq_getElem?_getD]
    · rw [hB.cell l1, q1, List.getD_eq_getElem?_getD]
    · rw [hB.cell l2, q2, List.getD_eq_getElem?_getD]
  have HAT : Hid _ := hat
  have kA : ∀ w1, Below W.heap.size W w1 → (Part.mk a0 A' cap0).ok w1 := fun w1 h => part_ok (hrA.later h) hbA (by omega) hm0
  have kB : ∀ w1, Below W.heap.size W w1 → (Part.mk a1 B' cap1).ok w1 := fun w1 h => part_ok (hrB.later h) hbB (by omega) hm1
  have kC : ∀ w1, Below W.heap.size W w1 → (Part.mk a2 C' cap2).ok w1 := fun w1 h => part_ok (hrC.later h) hbC (by omega) hm2
  have HKA : Hid _ := kA
  have HKB : Hid _ := kB
  have HKC : Hid _ := kC
  have hnb : n ≤ 140737488351232 := by omega
  clear hla hlb hlc hn hA1 hB1' hC1 hlA hlB hlC hlin hnl0 hat kA kB kC hr0 hr1 hr2 hn0 hn1 hn2 hb0 hb1 hb2 hrB hrC HLA HLB HLC
  go_enter Tryd.func5, Tryd.ntmps5
  go_wp2_with fail
  refine (known2_any _ ht).mono ?_
  rintro e w1 ⟨rfl, hB1⟩
  go_wp2_with (at_builtin; refine wpList_append_own_any rfl _ (.tmp 21) 24 rfl w1.heap.size 5 i0 (.int .u8 0) 1 1 Tryd.underlying24 hi hz0 hz1 hz2 rfl (by decide) (.slice none 0 0) 0 [] rfl (World.ownsRow_nil _ _ _ _) a0 n cap0 (A'.map (Value.int .u8)) rfl (by rw [List.length_map, Nat.mul_one]; exact HLA'.out) HNL0.out (hrA.later hB1).news (ints_oneCell _ _) (by unfold maxLen; omega) (by omega) (Nat.le_refl _) ?_; intro v3 w3 hown3 hgrow3; rw [Nat.zero_add, List.nil_append] at hown3; obtain ⟨ax, cx, hv3, _, hcx, hmx, _⟩ := own_shape hown3; rw [HLA'.out] at hv3 hcx; subst hv3)
  have hB3 : Below W.heap.size W w3 := hB1.grown hgrow3 hB1.size (fun k hk => by cases hk)
  have HOWN : Hid _ := hown3
  have hbase : W.heap.size ≤ w1.heap.size := hB1.size
  clear hown3 hgrow3 hrA hB1
  go_loopw [9] (fun i w => ∃ k : Nat, k ≤ n ∧ i = .int .i64 k ∧ Below W.heap.size W w ∧ w.ownsRow w1.heap.size 5 1 (.slice ax n cx) n ((lin A' B' C' k).map (Value.int .u8))) (fun i w => n - (intOf i).toNat)
  case atStart => exact ⟨0, by omega, rfl, hB3, HOWN.out⟩
  case round =>
    obtain ⟨k, hk, rfl, hBk, hok⟩ := hrel
    by_cases hlt : k < n
    · obtain ⟨b0, o0, b1, o1, b2, o2, rfl, rfl, rfl, hl0, hl1, hl2, c0, c1, c2⟩ := HAT.out _ hBk k hlt
      obtain ⟨g, cg, hvg, hg, _, _⟩ := own_some hok (by omega)
      simp only [Value.slice.injEq, true_and] at hvg
      obtain ⟨rfl, rfl⟩ := hvg
      obtain ⟨y0, hy0⟩ : ∃ y, y = A'[k]?.getD 0 := ⟨_, rfl⟩
      obtain ⟨y1, hy1⟩ : ∃ y, y = B'[k]?.getD 0 := ⟨_, rfl⟩
      obtain ⟨y2, hy2⟩ : ∃ y, y = C'[k]?.getD 0 := ⟨_, rfl⟩
      rw [← hy0] at c0
      rw [← hy1] at c1
      rw [← hy2] at c2
      have HY0 : Hid (y0 = A'[k]?.getD 0) := hy0
      have HY1 : Hid (y1 = B'[k]?.getD 0) := hy1
      have HY2 : Hid (y2 = C'[k]?.getD 0) := hy2
      have hfz := hok.drew.frozenAt k
      obtain ⟨yg, hcg⟩ : ∃ y, wr.drew.cell? ⟨g, k, none⟩ = some (.int .u8 y) := by
        have hl := lin_len A' B' C' k
        rw [HLA'.out] at hl
        refine ⟨(lin A' B' C' k)[k]?.getD 0, ?_⟩
        rw [hok.drew.cellAt k (by omega)]
        simp [show k < (lin A' B' C' k).length by omega]
      have hka : k < la := by omega
      have hkb : k < lb := by omega
      have hkc : k < lc := by omega
      have hS0 : wr.drew.cell? ⟨b0, o0 + k, none⟩ = some (.int .u8 y0) ∧ wr.drew.cell? ⟨b1, o1 + k, none⟩ = some (.int .u8 y1) ∧ wr.drew.cell? ⟨b2, o2 + k, none⟩ = some (.int .u8 y2) := ⟨c0, c1, c2⟩
      have HOKK : Hid _ := hok
      clear hy0 hy1 hy2 hok c0 c1 c2
      go_wp2
      refine wp_region_held_drew (S := fun w => w.cell? ⟨b0, o0 + k, none⟩ = some (.int .u8 y0) ∧ w.cell? ⟨b1, o1 + k, none⟩ = some (.int .u8 y1) ∧ w.cell? ⟨b2, o2 + k, none⟩ = some (.int .u8 y2)) (by kernel_rfl) hS0 (fun hS => ?_)
      refine wpAnyH_take (i := 0) (v := ?_) rfl (by kernel_rfl) (by kernel_rfl) (by kernel_rfl) (fun _ _ _ h => h) (Or.inl ⟨by rfl, ?_⟩) hS ?_
      rotate_left 1
      · intro w hSw; (try dsimp only at hSw); go_simp <;> with_reducible rfl
      simp only [List.getElem_toArray, List.getElem_cons_zero, List.getElem_cons_succ, Act.put, List.setIfInBounds_toArray, List.set_cons_zero, List.set_cons_succ]
      refine wpAnyH_take (i := 1) (v := ?_) rfl (by kernel_rfl) (by kernel_rfl) (by kernel_rfl) (fun _ _ _ h => h) (Or.inl ⟨by rfl, ?_⟩) hS ?_
      rotate_left 1
      · intro w hSw; (try dsimp only at hSw); go_simp <;> with_reducible rfl
      simp only [List.getElem_toArray, List.getElem_cons_zero, List.getElem_cons_succ, Act.put, List.setIfInBounds_toArray, List.set_cons_zero, List.set_cons_succ]
      refine wpAnyH_take (i := 2) (v := ?_) rfl (by kernel_rfl) (by kernel_rfl) (by kernel_rfl) (fun _ _ _ h => h) (Or.inl ⟨by rfl, ?_⟩) hS ?_
      rotate_left 1
      · intro w hSw; (try dsimp only at hSw); go_simp <;> with_reducible rfl
      simp only [List.getElem_toArray, List.getElem_cons_zero, List.getElem_cons_succ, Act.put, List.setIfInBounds_toArray, List.set_cons_zero, List.set_cons_succ]
      refine wpAnyH_take (i := 3) (v := ?_) rfl (by kernel_rfl) (by kernel_rfl) (by kernel_rfl) (fun _ _ _ h => h) (Or.inl ⟨by rfl, ?_⟩) hS ?_
      rotate_left 1
      · intro w hSw; (try dsimp only at hSw); go_simp <;> with_reducible rfl
      simp only [List.getElem_toArray, List.getElem_cons_zero, List.getElem_cons_succ, Act.put, List.setIfInBounds_toArray, List.set_cons_zero, List.set_cons_succ]
      refine wpAnyH_take (i := 4) (v := ?_) rfl (by kernel_rfl) (by kernel_rfl) (by kernel_rfl) (fun _ _ _ h => h) (Or.inl ⟨by rfl, ?_⟩) hS ?_
      rotate_left 1
      · intro w hSw; (try dsimp only at hSw); go_simp <;> with_reducible rfl
      simp only [List.getElem_toArray, List.getElem_cons_zero, List.getElem_cons_succ, Act.put, List.setIfInBounds_toArray, List.set_cons_zero, List.set_cons_succ]
      refine wpAnyH_take (i := 5) (v := ?_) rfl (by kernel_rfl) (by kernel_rfl) (by kernel_rfl) (fun _ _ _ h => h) (Or.inl ⟨by rfl, ?_⟩) hS ?_
      rotate_left 1
      · intro w hSw; (try dsimp only at hSw); go_simp <;> with_reducible rfl
      simp only [List.getElem_toArray, List.getElem_cons_zero, List.getElem_cons_succ, Act.put, List.setIfInBounds_toArray, List.set_cons_zero, List.set_cons_succ]
      refine wpAnyH_take (i := 6) (v := ?_) rfl (by kernel_rfl) (by kernel_rfl) (by kernel_rfl) (fun _ _ _ h => h) (Or.inl ⟨by rfl, ?_⟩) hS ?_
      rotate_left 1
      · intro w hSw; (try dsimp only at hSw); go_simp <;> with_reducible rfl
      simp only [List.getElem_toArray, List.getElem_cons_zero, List.getElem_cons_succ, Act.put, List.setIfInBounds_toArray, List.set_cons_zero, List.set_cons_succ]
      refine wpAnyH_take (i := 7) (v := ?_) rfl (by kernel_rfl) (by kernel_rfl) (by kernel_rfl) (fun _ _ _ h => h) (Or.inl ⟨by rfl, ?_⟩) hS ?_
      rotate_left 1
      · intro w hSw; (try dsimp only at hSw); go_simp <;> with_reducible rfl
      simp only [List.getElem_toArray, List.getElem_cons_zero, List.getElem_cons_succ, Act.put, List.setIfInBounds_toArray, List.set_cons_zero, List.set_cons_succ]
      refine wpAnyH_take (i := 8) (v := ?_) rfl (by kernel_rfl) (by kernel_rfl) (by kernel_rfl) (fun _ _ _ h => h) (Or.inl ⟨by rfl, ?_⟩) hS ?_
      rotate_left 1
      · intro w hSw; (try dsimp only at hSw); go_simp <;> with_reducible rfl
      simp only [List.getElem_toArray, List.getElem_cons_zero, List.getElem_cons_succ, Act.put, List.setIfInBounds_toArray, List.set_cons_zero, List.set_cons_succ]
      refine wpAnyH_take (i := 9) (v := ?_) rfl (by kernel_rfl) (by kernel_rfl) (by kernel_rfl) (fun _ _ _ h => h) (Or.inl ⟨by rfl, ?_⟩) hS ?_
      rotate_left 1
      · intro w hSw; (try dsimp only at hSw); go_simp <;> with_reducible rfl
      simp only [List.getElem_toArray, List.getElem_cons_zero, List.getElem_cons_succ, Act.put, List.setIfInBounds_toArray, List.set_cons_zero, List.set_cons_succ]
      refine wpAnyH_take (i := 10) (v := ?_) rfl (by kernel_rfl) (by kernel_rfl) (by kernel_rfl) (fun _ _ _ h => h) (Or.inl ⟨by rfl, ?_⟩) hS ?_
      rotate_left 1
      · intro w hSw; (try dsimp only at hSw); go_simp <;> with_reducible rfl
      simp only [List.getElem_toArray, List.getElem_cons_zero, List.getElem_cons_succ, Act.put, List.setIfInBounds_toArray, List.set_cons_zero, List.set_cons_succ]
      refine wpAnyH_take (i := 11) (v := ?_) rfl (by kernel_rfl) (by kernel_rfl) (by kernel_rfl) (fun _ _ _ h => h) (Or.inl ⟨by rfl, ?_⟩) hS ?_
      rotate_left 1
      · intro w hSw; (try dsimp only at hSw); go_simp <;> with_reducible rfl
      simp only [List.getElem_toArray, List.getElem_cons_zero, List.getElem_cons_succ, Act.put, List.setIfInBounds_toArray, List.set_cons_zero, List.set_cons_succ]
      refine wpAnyH_take (i := 12) (v := ?_) rfl (by kernel_rfl) (by kernel_rfl) (by kernel_rfl) (fun _ _ _ h => h) (Or.inl ⟨by rfl, ?_⟩) hS ?_
      rotate_left 1
      · intro w hSw; (try dsimp only at hSw); go_simp <;> with_reducible rfl
      simp only [List.getElem_toArray, List.getElem_cons_zero, List.getElem_cons_succ, Act.put, List.setIfInBounds_toArray, List.set_cons_zero, List.set_cons_succ]
      refine wpAnyH_take (i := 13) (v := ?_) rfl (by kernel_rfl) (by kernel_rfl) (by kernel_rfl) (fun _ _ _ h => h) (Or.inl ⟨by rfl, ?_⟩) hS ?_
      rotate_left 1
      · intro w hSw; (try dsimp only at hSw); go_simp <;> with_reducible rfl
      simp only [List.getElem_toArray, List.getElem_cons_zero, List.getElem_cons_succ, Act.put, List.setIfInBounds_toArray, List.set_cons_zero, List.set_cons_succ]
      refine wpAnyH_take (i := 14) (v := ?_) rfl (by kernel_rfl) (by kernel_rfl) (by kernel_rfl) (fun _ _ _ h => h) (Or.inl ⟨by rfl, ?_⟩) hS ?_
      rotate_left 1
      · intro w hSw; (try dsimp only at hSw); go_simp <;> with_reducible rfl
      simp only [List.getElem_toArray, List.getElem_cons_zero, List.getElem_cons_succ, Act.put, List.setIfInBounds_toArray, List.set_cons_zero, List.set_cons_succ]
      refine wpAnyH_take (i := 15) (v := ?_) rfl (by kernel_rfl) (by kernel_rfl) (by kernel_rfl) (fun _ _ _ h => h) (Or.inl ⟨by rfl, ?_⟩) hS ?_
      rotate_left 1
      · intro w hSw; (try dsimp only at hSw); go_simp <;> with_reducible rfl
      simp only [List.getElem_toArray, List.getElem_cons_zero, List.getElem_cons_succ, Act.put, List.setIfInBounds_toArray, List.set_cons_zero, List.set_cons_succ]
      refine wpAnyH_take (i := 16) (v := ?_) rfl (by kernel_rfl) (by kernel_rfl) (by kernel_rfl) (fun _ _ _ h => h) (Or.inl ⟨by rfl, ?_⟩) hS ?_
      rotate_left 1
      · intro w hSw; (try dsimp only at hSw); go_simp <;> with_reducible rfl
      simp only [List.getElem_toArray, List.getElem_cons_zero, List.getElem_cons_succ, Act.put, List.setIfInBounds_toArray, List.set_cons_zero, List.set_cons_succ]
      refine wpAnyH_ready (rs := [17]) (by kernel_rfl) (by simp) ?_
      refine AllReadyH.cons rfl (fun K hK => ?_) AllReadyH.nil
      go_simp
      refine hK.out _ _ ?_ (fun hS => ?_)
      · exact ⟨(World.cell?_setCell_far wr ⟨g, k, none⟩ ⟨b0, o0 + k, none⟩ _ (by show g ≠ b0; omega)).trans hS.1, (World.cell?_setCell_far wr ⟨g, k, none⟩ ⟨b1, o1 + k, none⟩ _ (by show g ≠ b1; omega)).trans hS.2.1, (World.cell?_setCell_far wr ⟨g, k, none⟩ ⟨b2, o2 + k, none⟩ _ (by show g ≠ b2; omega)).trans hS.2.2⟩
      clear hK K
      try simp only [List.getElem_toArray, List.getElem_cons_zero, List.getElem_cons_succ, Act.put, List.setIfInBounds_toArray, List.set_cons_zero, List.set_cons_succ]
      refine wpAnyH_done (by kernel_rfl) ?_ _
      go_wp2
      go_roundw
      case rel =>
        refine ⟨k + 1, by omega, by go_num, ?_, ?_⟩
        · exact (hBk.setCell (show W.heap.size ≤ g by omega) _).drew
        · refine World.ownsRow.drew ?_
          have hst := (World.ownsRow.stored HOKK.out k (.int .u8 (bits .xor .u8 (bits .xor .u8 y0 y1) y2))).1
          rw [← List.map_set] at hst
          show World.ownsRow _ _ _ _ _ _ (((lin A' B' C' k).set k (bits .xor .u8 (bits .xor .u8 (A'[k]?.getD 0) (B'[k]?.getD 0)) (C'[k]?.getD 0))).map (Value.int .u8))
          rw [← HY0.out, ← HY1.out, ← HY2.out]
          exact hst
      case measure => simp [intOf]; omega
    · have hkn : k = n := by omega
      subst hkn
      obtain ⟨X, hX⟩ : ∃ X, X = lin A' B' C' k := ⟨_, rfl⟩
      have hXb : ∀ c ∈ X, 0 ≤ c ∧ c ≤ 255 := by rw [hX]; exact lin_byte hbA B' C' k
      have hXl : X.length = k := by rw [hX, lin_len]; exact HLA'.out
      rw [← hX] at hok HLIN
      have hXr : Row .u8 wr ax X := by
        obtain ⟨ax', cx', hv, hr, _⟩ := own_shape hok
        rw [hXl] at hv
        simp only [Value.slice.injEq, true_and] at hv
        rw [hv.1]; exact hr
      have kX : ∀ w1, Below wr.heap.size wr w1 → (Part.mk ax X cx).ok w1 := fun w1 h => part_ok (hXr.later h) hXb (by omega) hmx
      obtain ⟨cX, hcX⟩ : ∃ c, c = crcOf X := ⟨_, rfl⟩
      obtain ⟨cA, hcA⟩ : ∃ c, c = crcOf A' := ⟨_, rfl⟩
      obtain ⟨cB, hcB⟩ : ∃ c, c = crcOf B' := ⟨_, rfl⟩
      obtain ⟨cC, hcC⟩ : ∃ c, c = crcOf C' := ⟨_, rfl⟩
      have hlA := crcOf_lt hbA
      have hlB := crcOf_lt hbB
      have hlC := crcOf_lt hbC
      rw [← hcA] at hlA
      rw [← hcB] at hlB
      rw [← hcC] at hlC
      rw [← hcX, ← hcA, ← hcB, ← hcC] at HLIN
      have hx2 : bits .xor .u32 (bits .xor .u32 (cA : Int) (cB : Int)) (cC : Int) = (cX : Int) := by
        rw [show (cX : Int) = ((cA ^^^ cB ^^^ cC : Nat) : Int) by rw [HLIN.out]]
        rw [u32_xor_nat cA cB hlA hlB, u32_xor_nat _ cC (CrcMath.xor_lt hlA hlB) hlC]
      have HX2 : Hid _ := hx2
      have HCX : Hid (cX = crcOf X) := hcX
      have HCA : Hid (cA = crcOf A') := hcA
      have HCB : Hid (cB = crcOf B') := hcB
      have HCC : Hid (cC = crcOf C') := hcC
      have HKX : Hid _ := kX
      have HBA : Hid _ := hbA
      have HXL : Hid _ := hXl
      clear hX hXb hXl hXr kX hcX hcA hcB hcC hlA hlB hlC hok hx2 hbA hbB hbC
      have h0 : ∀ (a : Act) (l : Array Bool) (w : World), 66 ≤ a.tmps.size → l.getD 1 false = false → l.getD 2 false = false → l.getD 6 false = false → l.getD 7 false = false → l.getD 11 false = false → l.getD 12 false = false → l.getD 13 false = false → l.getD 17 false = false → l.getD 18 false = false → l.getD 19 false = false → l.getD 20 false = false → l.getD 21 false = false → Below W.heap.size W w → Below wr.heap.size wr w → ((fun a' l a w => ∃ x46 x47 x51 x52 x56 x57 x58 x62 x63 x64 x65 x6, a = ((((((((((((a'.put (some 46) x46).put (some 47) x47).put (some 51) x51).put (some 52) x52).put (some 56) x56).put (some 57) x57).put (some 58) x58).put (some 62) x62).put (some 63) x63).put (some 64) x64).put (some 65) x65).put (some 6) x6) ∧ (Below W.heap.size W w ∧ Below wr.heap.size wr w) ∧ (l.getD 1 false = true → OneLit w x46 ⟨ax, X, cx⟩) ∧ (l.getD 2 false = true → x47 = .int .u32 (cX : Int)) ∧ (l.getD 6 false = true → OneLit w x51 ⟨a0, A', cap0⟩) ∧ (l.getD 7 false = true → x52 = .int .u32 (cA : Int)) ∧ (l.getD 11 false = true → OneLit w x56 ⟨a1, B', cap1⟩) ∧ (l.getD 12 false = true → x57 = .int .u32 (cB : Int)) ∧ (l.getD 13 false = true → x58 = .int .u32 (bits .xor .u32 (cA : Int) (cB : Int))) ∧ (l.getD 17 false = true → OneLit w x62 ⟨a2, C', cap2⟩) ∧ (l.getD 18 false = true → x63 = .int .u32 (cC : Int)) ∧ (l.getD 19 false = true → x64 = .int .u32 (cX : Int)) ∧ (l.getD 20 false = true → x65 = .bool true) ∧ (l.getD 21 false = true → x6 = .bool true))) a l a w := by
        intro a l w hsz n1 n2 n6 n7 n11 n12 n13 n17 n18 n19 n20 n21 hB hBw
        exact ⟨a.tmps.getD 46 undef, a.tmps.getD 47 undef, a.tmps.getD 51 undef, a.tmps.getD 52 undef, a.tmps.getD 56 undef, a.tmps.getD 57 undef, a.tmps.getD 58 undef, a.tmps.getD 62 undef, a.tmps.getD 63 undef, a.tmps.getD 64 undef, a.tmps.getD 65 undef, a.tmps.getD 6 undef, by rw [put_self a 46 (by omega), put_self a 47 (by omega), put_self a 51 (by omega), put_self a 52 (by omega), put_self a 56 (by omega), put_self a 57 (by omega), put_self a 58 (by omega), put_self a 62 (by omega), put_self a 63 (by omega), put_self a 64 (by omega), put_self a 65 (by omega), put_self a 6 (by omega)], ⟨hB, hBw⟩, not_up n1, not_up n2, not_up n6, not_up n7, not_up n11, not_up n12, not_up n13, not_up n17, not_up n18, not_up n19, not_up n20, not_up n21⟩
      go_wp2
      refine wp_region_held_drew (S := fun _ => True) (by kernel_rfl) trivial (fun hS => ?_)
      refine wpAnyH_take (i := 0) (v := ?_) rfl (by kernel_rfl) (by kernel_rfl) (by kernel_rfl) (fun _ _ _ h => h) (Or.inl ⟨by rfl, ?_⟩) hS ?_
      rotate_left 1
      · intro w hSw; (try dsimp only at hSw); go_simp <;> with_reducible rfl
      simp only [List.getElem_toArray, List.getElem_cons_zero, List.getElem_cons_succ, Act.put, List.setIfInBounds_toArray, List.set_cons_zero, List.set_cons_succ]
      refine wpAnyH_take (i := 3) (v := ?_) rfl (by kernel_rfl) (by kernel_rfl) (by kernel_rfl) (fun _ _ _ h => h) (Or.inl ⟨by rfl, ?_⟩) hS ?_
      rotate_left 1
      · intro w hSw; (try dsimp only at hSw); go_simp <;> with_reducible rfl
      simp only [List.getElem_toArray, List.getElem_cons_zero, List.getElem_cons_succ, Act.put, List.setIfInBounds_toArray, List.set_cons_zero, List.set_cons_succ]
      refine wpAnyH_take (i := 4) (v := ?_) rfl (by kernel_rfl) (by kernel_rfl) (by kernel_rfl) (fun _ _ _ h => h) (Or.inl ⟨by rfl, ?_⟩) hS ?_
      rotate_left 1
      · intro w hSw; (try dsimp only at hSw); go_simp <;> with_reducible rfl
      simp only [List.getElem_toArray, List.getElem_cons_zero, List.getElem_cons_succ, Act.put, List.setIfInBounds_toArray, List.set_cons_zero, List.set_cons_succ]
      refine wpAnyH_take (i := 5) (v := ?_) rfl (by kernel_rfl) (by kernel_rfl) (by kernel_rfl) (fun _ _ _ h => h) (Or.inl ⟨by rfl, ?_⟩) hS ?_
      rotate_left 1
      · intro w hSw; (try dsimp only at hSw); go_simp <;> with_reducible rfl
      simp only [List.getElem_toArray, List.getElem_cons_zero, List.getElem_cons_succ, Act.put, List.setIfInBounds_toArray, List.set_cons_zero, List.set_cons_succ]
      refine wpAnyH_take (i := 8) (v := ?_) rfl (by kernel_rfl) (by kernel_rfl) (by kernel_rfl) (fun _ _ _ h => h) (Or.inl ⟨by rfl, ?_⟩) hS ?_
      rotate_left 1
      · intro w hSw; (try dsimp only at hSw); go_simp <;> with_reducible rfl
      simp only [List.getElem_toArray, List.getElem_cons_zero, List.getElem_cons_succ, Act.put, List.setIfInBounds_toArray, List.set_cons_zero, List.set_cons_succ]
      refine wpAnyH_take (i := 9) (v := ?_) rfl (by kernel_rfl) (by kernel_rfl) (by kernel_rfl) (fun _ _ _ h => h) (Or.inl ⟨by rfl, ?_⟩) hS ?_
      rotate_left 1
      · intro w hSw; (try dsimp only at hSw); go_simp <;> with_reducible rfl
      simp only [List.getElem_toArray, List.getElem_cons_zero, List.getElem_cons_succ, Act.put, List.setIfInBounds_toArray, List.set_cons_zero, List.set_cons_succ]
      refine wpAnyH_take (i := 10) (v := ?_) rfl (by kernel_rfl) (by kernel_rfl) (by kernel_rfl) (fun _ _ _ h => h) (Or.inl ⟨by rfl, ?_⟩) hS ?_
      rotate_left 1
      · intro w hSw; (try dsimp only at hSw); go_simp <;> with_reducible rfl
      simp only [List.getElem_toArray, List.getElem_cons_zero, List.getElem_cons_succ, Act.put, List.setIfInBounds_toArray, List.set_cons_zero, List.set_cons_succ]
      refine wpAnyH_take (i := 14) (v := ?_) rfl (by kernel_rfl) (by kernel_rfl) (by kernel_rfl) (fun _ _ _ h => h) (Or.inl ⟨by rfl, ?_⟩) hS ?_
      rotate_left 1
      · intro w hSw; (try dsimp only at hSw); go_simp <;> with_reducible rfl
      simp only [List.getElem_toArray, List.getElem_cons_zero, List.getElem_cons_succ, Act.put, List.setIfInBounds_toArray, List.set_cons_zero, List.set_cons_succ]
      refine wpAnyH_take (i := 15) (v := ?_) rfl (by kernel_rfl) (by kernel_rfl) (by kernel_rfl) (fun _ _ _ h => h) (Or.inl ⟨by rfl, ?_⟩) hS ?_
      rotate_left 1
      · intro w hSw; (try dsimp only at hSw); go_simp <;> with_reducible rfl
      simp only [List.getElem_toArray, List.getElem_cons_zero, List.getElem_cons_succ, Act.put, List.setIfInBounds_toArray, List.set_cons_zero, List.set_cons_succ]
      refine wpAnyH_take (i := 16) (v := ?_) rfl (by kernel_rfl) (by kernel_rfl) (by kernel_rfl) (fun _ _ _ h => h) (Or.inl ⟨by rfl, ?_⟩) hS ?_
      rotate_left 1
      · intro w hSw; (try dsimp only at hSw); go_simp <;> with_reducible rfl
      simp only [List.getElem_toArray, List.getElem_cons_zero, List.getElem_cons_succ, Act.put, List.setIfInBounds_toArray, List.set_cons_zero, List.set_cons_succ]
      refine wpAnyH_inv_at (Rel := fun a' l a w => ∃ x46 x47 x51 x52 x56 x57 x58 x62 x63 x64 x65 x6, a = ((((((((((((a'.put (some 46) x46).put (some 47) x47).put (some 51) x51).put (some 52) x52).put (some 56) x56).put (some 57) x57).put (some 58) x58).put (some 62) x62).put (some 63) x63).put (some 64) x64).put (some 65) x65).put (some 6) x6) ∧ (Below W.heap.size W w ∧ Below wr.heap.size wr w) ∧ (l.getD 1 false = true → OneLit w x46 ⟨ax, X, cx⟩) ∧ (l.getD 2 false = true → x47 = .int .u32 (cX : Int)) ∧ (l.getD 6 false = true → OneLit w x51 ⟨a0, A', cap0⟩) ∧ (l.getD 7 false = true → x52 = .int .u32 (cA : Int)) ∧ (l.getD 11 false = true → OneLit w x56 ⟨a1, B', cap1⟩) ∧ (l.getD 12 false = true → x57 = .int .u32 (cB : Int)) ∧ (l.getD 13 false = true → x58 = .int .u32 (bits .xor .u32 (cA : Int) (cB : Int))) ∧ (l.getD 17 false = true → OneLit w x62 ⟨a2, C', cap2⟩) ∧ (l.getD 18 false = true → x63 = .int .u32 (cC : Int)) ∧ (l.getD 19 false = true → x64 = .int .u32 (cX : Int)) ∧ (l.getD 20 false = true → x65 = .bool true) ∧ (l.getD 21 false = true → x6 = .bool true)) (rs := [1, 2, 6, 7, 11, 12, 13, 17, 18, 19, 20, 21]) (by kernel_rfl) (by kernel_rfl) (by kernel_rfl) (of_decide_eq_true (by kernel_rfl)) ?_ ?_ ?_
      · exact h0 _ _ _ (of_decide_eq_true (by kernel_rfl)) (by kernel_rfl) (by kernel_rfl) (by kernel_rfl) (by kernel_rfl) (by kernel_rfl) (by kernel_rfl) (by kernel_rfl) (by kernel_rfl) (by kernel_rfl) (by kernel_rfl) (by kernel_rfl) (by kernel_rfl) hBk.drew (Below.refl _ _).drew
      · simp only [Act.put, List.setIfInBounds_toArray, List.set_cons_zero, List.set_cons_succ]
        refine InvSteps.cons rfl (fun l a w hsz hI hdep K hK => ?_) (InvSteps.cons rfl (fun l a w hsz hI hdep K hK => ?_) (InvSteps.cons rfl (fun l a w hsz hI hdep K hK => ?_) (InvSteps.cons rfl (fun l a w hsz hI hdep K hK => ?_) (InvSteps.cons rfl (fun l a w hsz hI hdep K hK => ?_) (InvSteps.cons rfl (fun l a w hsz hI hdep K hK => ?_) (InvSteps.cons rfl (fun l a w hsz hI hdep K hK => ?_) (InvSteps.cons rfl (fun l a w hsz hI hdep K hK => ?_) (InvSteps.cons rfl (fun l a w hsz hI hdep K hK => ?_) (InvSteps.cons rfl (fun l a w hsz hI hdep K hK => ?_) (InvSteps.cons rfl (fun l a w hsz hI hdep K hK => ?_) (InvSteps.cons rfl (fun l a w hsz hI hdep K hK => ?_) (InvSteps.nil))))))))))))
        · obtain ⟨x46, x47, x51, x52, x56, x57, x58, x62, x63, x64, x65, x6, rfl, ⟨hB, hBw⟩, h1, h2, h6, h7, h11, h12, h13, h17, h18, h19, h20, h21⟩ := hI
          have H1 : Hid _ := h1
          have H2 : Hid _ := h2
          have H6 : Hid _ := h6
          have H7 : Hid _ := h7
          have H11 : Hid _ := h11
          have H12 : Hid _ := h12
          have H13 : Hid _ := h13
          have H17 : Hid _ := h17
          have H18 : Hid _ := h18
          have H19 : Hid _ := h19
          have H20 : Hid _ := h20
          have H21 : Hid _ := h21
          clear h1 h2 h6 h7 h11 h12 h13 h17 h18 h19 h20 h21 hdep
          go_simp
          refine hK.out _ _ ⟨.slice (some ⟨w.heap.size, 0, none⟩) 1 1, x47, x51, x52, x56, x57, x58, x62, x63, x64, x65, x6, rfl, ⟨hB.alloc hB.size _, hBw.alloc hBw.size _⟩, fun _ => ⟨_, rfl, one_lit w ⟨ax, X, cx⟩ _ (by show _ = Value.slice _ (List.length X) _; rw [HXL.out]) (HKX.out w hBw)⟩, fun h => H2.out (up_keep h (by decide)), fun h => OneLit.later (H6.out (up_keep h (by decide))) ((Below.refl _ _).alloc (Nat.le_refl _) _), fun h => H7.out (up_keep h (by decide)), fun h => OneLit.later (H11.out (up_keep h (by decide))) ((Below.refl _ _).alloc (Nat.le_refl _) _), fun h => H12.out (up_keep h (by decide)), fun h => H13.out (up_keep h (by decide)), fun h => OneLit.later (H17.out (up_keep h (by decide))) ((Below.refl _ _).alloc (Nat.le_refl _) _), fun h => H18.out (up_keep h (by decide)), fun h => H19.out (up_keep h (by decide)), fun h => H20.out (up_keep h (by decide)), fun h => H21.out (up_keep h (by decide))⟩
        · obtain ⟨x46, x47, x51, x52, x56, x57, x58, x62, x63, x64, x65, x6, rfl, ⟨hB, hBw⟩, h1, h2, h6, h7, h11, h12, h13, h17, h18, h19, h20, h21⟩ := hI
          have d1 := h1 (hdep { on := 1, ground := .data } (by simp) rfl)
          obtain ⟨g, hx, hp⟩ := d1
          subst hx
          have H1 : Hid _ := h1
          have H2 : Hid _ := h2
          have H6 : Hid _ := h6
          have H7 : Hid _ := h7
          have H11 : Hid _ := h11
          have H12 : Hid _ := h12
          have H13 : Hid _ := h13
          have H17 : Hid _ := h17
          have H18 : Hid _ := h18
          have H19 : Hid _ := h19
          have H20 : Hid _ := h20
          have H21 : Hid _ := h21
          clear h1 h2 h6 h7 h11 h12 h13 h17 h18 h19 h20 h21 hdep
          go_simp
          have hcl := crcSum_any (some ⟨g, 0, none⟩) [⟨ax, X, cx⟩] 1 w (ht.later hB) hp (by simp) (by decide)
          rw [allB_1] at hcl
          dsimp only at hcl
          rw [← HCX.out] at hcl
          refine Calls.mono hcl ?_
          rintro e w9 ⟨rfl, hbel⟩
          refine hK.out _ _ ⟨.slice (some ⟨g, 0, none⟩) 1 1, .int .u32 (cX : Int), x51, x52, x56, x57, x58, x62, x63, x64, x65, x6, rfl, ⟨hB.trans (hbel.mono hB.size), hBw.trans (hbel.mono hBw.size)⟩, fun h => OneLit.later (H1.out (up_keep h (by decide))) hbel, fun _ => rfl, fun h => OneLit.later (H6.out (up_keep h (by decide))) hbel, fun h => H7.out (up_keep h (by decide)), fun h => OneLit.later (H11.out (up_keep h (by decide))) hbel, fun h => H12.out (up_keep h (by decide)), fun h => H13.out (up_keep h (by decide)), fun h => OneLit.later (H17.out (up_keep h (by decide))) hbel, fun h => H18.out (up_keep h (by decide)), fun h => H19.out (up_keep h (by decide)), fun h => H20.out (up_keep h (by decide)), fun h => H21.out (up_keep h (by decide))⟩
        · obtain ⟨x46, x47, x51, x52, x56, x57, x58, x62, x63, x64, x65, x6, rfl, ⟨hB, hBw⟩, h1, h2, h6, h7, h11, h12, h13, h17, h18, h19, h20, h21⟩ := hI
          have H1 : Hid _ := h1
          have H2 : Hid _ := h2
          have H6 : Hid _ := h6
          have H7 : Hid _ := h7
          have H11 : Hid _ := h11
          have H12 : Hid _ := h12
          have H13 : Hid _ := h13
          have H17 : Hid _ := h17
          have H18 : Hid _ := h18
          have H19 : Hid _ := h19
          have H20 : Hid _ := h20
          have H21 : Hid _ := h21
          clear h1 h2 h6 h7 h11 h12 h13 h17 h18 h19 h20 h21 hdep
          go_simp
          refine hK.out _ _ ⟨x46, x47, .slice (some ⟨w.heap.size, 0, none⟩) 1 1, x52, x56, x57, x58, x62, x63, x64, x65, x6, rfl, ⟨hB.alloc hB.size _, hBw.alloc hBw.size _⟩, fun h => OneLit.later (H1.out (up_keep h (by decide))) ((Below.refl _ _).alloc (Nat.le_refl _) _), fun h => H2.out (up_keep h (by decide)), fun _ => ⟨_, rfl, one_lit w ⟨a0, A', cap0⟩ _ (by show _ = Value.slice _ (List.length A') _; rw [HLA'.out]) (HKA.out w hB)⟩, fun h => H7.out (up_keep h (by decide)), fun h => OneLit.later (H11.out (up_keep h (by decide))) ((Below.refl _ _).alloc (Nat.le_refl _) _), fun h => H12.out (up_keep h (by decide)), fun h => H13.out (up_keep h (by decide)), fun h => OneLit.later (H17.out (up_keep h (by decide))) ((Below.refl _ _).alloc (Nat.le_refl _) _), fun h => H18.out (up_keep h (by decide)), fun h => H19.out (up_keep h (by decide)), fun h => H20.out (up_keep h (by decide)), fun h => H21.out (up_keep h (by decide))⟩
        · obtain ⟨x46, x47, x51, x52, x56, x57, x58, x62, x63, x64, x65, x6, rfl, ⟨hB, hBw⟩, h1, h2, h6, h7, h11, h12, h13, h17, h18, h19, h20, h21⟩ := hI
          have d6 := h6 (hdep { on := 6, ground := .data } (by simp) rfl)
          obtain ⟨g, hx, hp⟩ := d6
          subst hx
          have H1 : Hid _ := h1
          have H2 : Hid _ := h2
          have H6 : Hid _ := h6
          have H7 : Hid _ := h7
          have H11 : Hid _ := h11
          have H12 : Hid _ := h12
          have H13 : Hid _ := h13
          have H17 : Hid _ := h17
          have H18 : Hid _ := h18
          have H19 : Hid _ := h19
          have H20 : Hid _ := h20
          have H21 : Hid _ := h21
          clear h1 h2 h6 h7 h11 h12 h13 h17 h18 h19 h20 h21 hdep
          go_simp
          have hcl := crcSum_any (some ⟨g, 0, none⟩) [⟨a0, A', cap0⟩] 1 w (ht.later hB) hp (by simp) (by decide)
          rw [allB_1] at hcl
          dsimp only at hcl
          rw [← HCA.out] at hcl
          refine Calls.mono hcl ?_
          rintro e w9 ⟨rfl, hbel⟩
          refine hK.out _ _ ⟨x46, x47, .slice (some ⟨g, 0, none⟩) 1 1, .int .u32 (cA : Int), x56, x57, x58, x62, x63, x64, x65, x6, rfl, ⟨hB.trans (hbel.mono hB.size), hBw.trans (hbel.mono hBw.size)⟩, fun h => OneLit.later (H1.out (up_keep h (by decide))) hbel, fun h => H2.out (up_keep h (by decide)), fun h => OneLit.later (H6.out (up_keep h (by decide))) hbel, fun _ => rfl, fun h => OneLit.later (H11.out (up_keep h (by decide))) hbel, fun h => H12.out (up_keep h (by decide)), fun h => H13.out (up_keep h (by decide)), fun h => OneLit.later (H17.out (up_keep h (by decide))) hbel, fun h => H18.out (up_keep h (by decide)), fun h => H19.out (up_keep h (by decide)), fun h => H20.out (up_keep h (by decide)), fun h => H21.out (up_keep h (by decide))⟩
        · obtain ⟨x46, x47, x51, x52, x56, x57, x58, x62, x63, x64, x65, x6, rfl, ⟨hB, hBw⟩, h1, h2, h6, h7, h11, h12, h13, h17, h18, h19, h20, h21⟩ := hI
          have H1 : Hid _ := h1
          have H2 : Hid _ := h2
          have H6 : Hid _ := h6
          have H7 : Hid _ := h7
          have H11 : Hid _ := h11
          have H12 : Hid _ := h12
          have H13 : Hid _ := h13
          have H17 : Hid _ := h17
          have H18 : Hid _ := h18
          have H19 : Hid _ := h19
          have H20 : Hid _ := h20
          have H21 : Hid _ := h21
          clear h1 h2 h6 h7 h11 h12 h13 h17 h18 h19 h20 h21 hdep
          go_simp
          refine hK.out _ _ ⟨x46, x47, x51, x52, .slice (some ⟨w.heap.size, 0, none⟩) 1 1, x57, x58, x62, x63, x64, x65, x6, rfl, ⟨hB.alloc hB.size _, hBw.alloc hBw.size _⟩, fun h => OneLit.later (H1.out (up_keep h (by decide))) ((Below.refl _ _).alloc (Nat.le_refl _) _), fun h => H2.out (up_keep h (by decide)), fun h => OneLit.later (H6.out (up_keep h (by decide))) ((Below.refl _ _).alloc (Nat.le_refl _) _), fun h => H7.out (up_keep h (by decide)), fun _ => ⟨_, rfl, one_lit w ⟨a1, B', cap1⟩ _ (by show _ = Value.slice _ (List.length B') _; rw [HLB'.out]) (HKB.out w hB)⟩, fun h => H12.out (up_keep h (by decide)), fun h => H13.out (up_keep h (by decide)), fun h => OneLit.later (H17.out (up_keep h (by decide))) ((Below.refl _ _).alloc (Nat.le_refl _) _), fun h => H18.out (up_keep h (by decide)), fun h => H19.out (up_keep h (by decide)), fun h => H20.out (up_keep h (by decide)), fun h => H21.out (up_keep h (by decide))⟩
        · obtain ⟨x46, x47, x51, x52, x56, x57, x58, x62, x63, x64, x65, x6, rfl, ⟨hB, hBw⟩, h1, h2, h6, h7, h11, h12, h13, h17, h18, h19, h20, h21⟩ := hI
          have d11 := h11 (hdep { on := 11, ground := .data } (by simp) rfl)
          obtain ⟨g, hx, hp⟩ := d11
          subst hx
          have H1 : Hid _ := h1
          have H2 : Hid _ := h2
          have H6 : Hid _ := h6
          have H7 : Hid _ := h7
          have H11 : Hid _ := h11
          have H12 : Hid _ := h12
          have H13 : Hid _ := h13
          have H17 : Hid _ := h17
          have H18 : Hid _ := h18
          have H19 : Hid _ := h19
          have H20 : Hid _ := h20
          have H21 : Hid _ := h21
          clear h1 h2 h6 h7 h11 h12 h13 h17 h18 h19 h20 h21 hdep
          go_simp
          have hcl := crcSum_any (some ⟨g, 0, none⟩) [⟨a1, B', cap1⟩] 1 w (ht.later hB) hp (by simp) (by decide)
          rw [allB_1] at hcl
          dsimp only at hcl
          rw [← HCB.out] at hcl
          refine Calls.mono hcl ?_
          rintro e w9 ⟨rfl, hbel⟩
          refine hK.out _ _ ⟨x46, x47, x51, x52, .slice (some ⟨g, 0, none⟩) 1 1, .int .u32 (cB : Int), x58, x62, x63, x64, x65, x6, rfl, ⟨hB.trans (hbel.mono hB.size), hBw.trans (hbel.mono hBw.size)⟩, fun h => OneLit.later (H1.out (up_keep h (by decide))) hbel, fun h => H2.out (up_keep h (by decide)), fun h => OneLit.later (H6.out (up_keep h (by decide))) hbel, fun h => H7.out (up_keep h (by decide)), fun h => OneLit.later (H11.out (up_keep h (by decide))) hbel, fun _ => rfl, fun h => H13.out (up_keep h (by decide)), fun h => OneLit.later (H17.out (up_keep h (by decide))) hbel, fun h => H18.out (up_keep h (by decide)), fun h => H19.out (up_keep h (by decide)), fun h => H20.out (up_keep h (by decide)), fun h => H21.out (up_keep h (by decide))⟩
        · obtain ⟨x46, x47, x51, x52, x56, x57, x58, x62, x63, x64, x65, x6, rfl, ⟨hB, hBw⟩, h1, h2, h6, h7, h11, h12, h13, h17, h18, h19, h20, h21⟩ := hI
          have d7 := h7 (hdep { on := 7, ground := .data } (by simp) rfl)
          subst d7
          have d12 := h12 (hdep { on := 12, ground := .data } (by simp) rfl)
          subst d12
          have H1 : Hid _ := h1
          have H2 : Hid _ := h2
          have H6 : Hid _ := h6
          have H7 : Hid _ := h7
          have H11 : Hid _ := h11
          have H12 : Hid _ := h12
          have H13 : Hid _ := h13
          have H17 : Hid _ := h17
          have H18 : Hid _ := h18
          have H19 : Hid _ := h19
          have H20 : Hid _ := h20
          have H21 : Hid _ := h21
          clear h1 h2 h6 h7 h11 h12 h13 h17 h18 h19 h20 h21 hdep
          go_simp
          refine hK.out _ _ ⟨x46, x47, x51, .int .u32 (cA : Int), x56, .int .u32 (cB : Int), .int .u32 (bits .xor .u32 (cA : Int) (cB : Int)), x62, x63, x64, x65, x6, rfl, ⟨hB, hBw⟩, fun h => H1.out (up_keep h (by decide)), fun h => H2.out (up_keep h (by decide)), fun h => H6.out (up_keep h (by decide)), fun h => H7.out (up_keep h (by decide)), fun h => H11.out (up_keep h (by decide)), fun h => H12.out (up_keep h (by decide)), fun _ => rfl, fun h => H17.out (up_keep h (by decide)), fun h => H18.out (up_keep h (by decide)), fun h => H19.out (up_keep h (by decide)), fun h => H20.out (up_keep h (by decide)), fun h => H21.out (up_keep h (by decide))⟩
        · obtain ⟨x46, x47, x51, x52, x56, x57, x58, x62, x63, x64, x65, x6, rfl, ⟨hB, hBw⟩, h1, h2, h6, h7, h11, h12, h13, h17, h18, h19, h20, h21⟩ := hI
          have H1 : Hid _ := h1
          have H2 : Hid _ := h2
          have H6 : Hid _ := h6
          have H7 : Hid _ := h7
          have H11 : Hid _ := h11
          have H12 : Hid _ := h12
          have H13 : Hid _ := h13
          have H17 : Hid _ := h17
          have H18 : Hid _ := h18
          have H19 : Hid _ := h19
          have H20 : Hid _ := h20
          have H21 : Hid _ := h21
          clear h1 h2 h6 h7 h11 h12 h13 h17 h18 h19 h20 h21 hdep
          go_simp
          refine hK.out _ _ ⟨x46, x47, x51, x52, x56, x57, x58, .slice (some ⟨w.heap.size, 0, none⟩) 1 1, x63, x64, x65, x6, rfl, ⟨hB.alloc hB.size _, hBw.alloc hBw.size _⟩, fun h => OneLit.later (H1.out (up_keep h (by decide))) ((Below.refl _ _).alloc (Nat.le_refl _) _), fun h => H2.out (up_keep h (by decide)), fun h => OneLit.later (H6.out (up_keep h (by decide))) ((Below.refl _ _).alloc (Nat.le_refl _) _), fun h => H7.out (up_keep h (by decide)), fun h => OneLit.later (H11.out (up_keep h (by decide))) ((Below.refl _ _).alloc (Nat.le_refl _) _), fun h => H12.out (up_keep h (by decide)), fun h => H13.out (up_keep h (by decide)), fun _ => ⟨_, rfl, one_lit w ⟨a2, C', cap2⟩ _ (by show _ = Value.slice _ (List.length C') _; rw [HLC'.out]) (HKC.out w hB)⟩, fun h => H18.out (up_keep h (by decide)), fun h => H19.out (up_keep h (by decide)), fun h => H20.out (up_keep h (by decide)), fun h => H21.out (up_keep h (by decide))⟩
        · obtain ⟨x46, x47, x51, x52, x56, x57, x58, x62, x63, x64, x65, x6, rfl, ⟨hB, hBw⟩, h1, h2, h6, h7, h11, h12, h13, h17, h18, h19, h20, h21⟩ := hI
          have d17 := h17 (hdep { on := 17, ground := .data } (by simp) rfl)
          obtain ⟨g, hx, hp⟩ := d17
          subst hx
          have H1 : Hid _ := h1
          have H2 : Hid _ := h2
          have H6 : Hid _ := h6
          have H7 : Hid _ := h7
          have H11 : Hid _ := h11
          have H12 : Hid _ := h12
          have H13 : Hid _ := h13
          have H17 : Hid _ := h17
          have H18 : Hid _ := h18
          have H19 : Hid _ := h19
          have H20 : Hid _ := h20
          have H21 : Hid _ := h21
          clear h1 h2 h6 h7 h11 h12 h13 h17 h18 h19 h20 h21 hdep
          go_simp
          have hcl := crcSum_any (some ⟨g, 0, none⟩) [⟨a2, C', cap2⟩] 1 w (ht.later hB) hp (by simp) (by decide)
          rw [allB_1] at hcl
          dsimp only at hcl
          rw [← HCC.out] at hcl
          refine Calls.mono hcl ?_
          rintro e w9 ⟨rfl, hbel⟩
          refine hK.out _ _ ⟨x46, x47, x51, x52, x56, x57, x58, .slice (some ⟨g, 0, none⟩) 1 1, .int .u32 (cC : Int), x64, x65, x6, rfl, ⟨hB.trans (hbel.mono hB.size), hBw.trans (hbel.mono hBw.size)⟩, fun h => OneLit.later (H1.out (up_keep h (by decide))) hbel, fun h => H2.out (up_keep h (by decide)), fun h => OneLit.later (H6.out (up_keep h (by decide))) hbel, fun h => H7.out (up_keep h (by decide)), fun h => OneLit.later (H11.out (up_keep h (by decide))) hbel, fun h => H12.out (up_keep h (by decide)), fun h => H13.out (up_keep h (by decide)), fun h => OneLit.later (H17.out (up_keep h (by decide))) hbel, fun _ => rfl, fun h => H19.out (up_keep h (by decide)), fun h => H20.out (up_keep h (by decide)), fun h => H21.out (up_keep h (by decide))⟩
        · obtain ⟨x46, x47, x51, x52, x56, x57, x58, x62, x63, x64, x65, x6, rfl, ⟨hB, hBw⟩, h1, h2, h6, h7, h11, h12, h13, h17, h18, h19, h20, h21⟩ := hI
          have d13 := h13 (hdep { on := 13, ground := .data } (by simp) rfl)
          subst d13
          have d18 := h18 (hdep { on := 18, ground := .data } (by simp) rfl)
          subst d18
          have H1 : Hid _ := h1
          have H2 : Hid _ := h2
          have H6 : Hid _ := h6
          have H7 : Hid _ := h7
          have H11 : Hid _ := h11
          have H12 : Hid _ := h12
          have H13 : Hid _ := h13
          have H17 : Hid _ := h17
          have H18 : Hid _ := h18
          have H19 : Hid _ := h19
          have H20 : Hid _ := h20
          have H21 : Hid _ := h21
          clear h1 h2 h6 h7 h11 h12 h13 h17 h18 h19 h20 h21 hdep
          go_simp
          refine hK.out _ _ ⟨x46, x47, x51, x52, x56, x57, .int .u32 (bits .xor .u32 (cA : Int) (cB : Int)), x62, .int .u32 (cC : Int), .int .u32 (bits .xor .u32 (bits .xor .u32 (cA : Int) (cB : Int)) (cC : Int)), x65, x6, rfl, ⟨hB, hBw⟩, fun h => H1.out (up_keep h (by decide)), fun h => H2.out (up_keep h (by decide)), fun h => H6.out (up_keep h (by decide)), fun h => H7.out (up_keep h (by decide)), fun h => H11.out (up_keep h (by decide)), fun h => H12.out (up_keep h (by decide)), fun h => H13.out (up_keep h (by decide)), fun h => H17.out (up_keep h (by decide)), fun h => H18.out (up_keep h (by decide)), fun _ => by rw [HX2.out], fun h => H20.out (up_keep h (by decide)), fun h => H21.out (up_keep h (by decide))⟩
        · obtain ⟨x46, x47, x51, x52, x56, x57, x58, x62, x63, x64, x65, x6, rfl, ⟨hB, hBw⟩, h1, h2, h6, h7, h11, h12, h13, h17, h18, h19, h20, h21⟩ := hI
          have d2 := h2 (hdep { on := 2, ground := .data } (by simp) rfl)
          subst d2
          have d19 := h19 (hdep { on := 19, ground := .data } (by simp) rfl)
          subst d19
          have H1 : Hid _ := h1
          have H2 : Hid _ := h2
          have H6 : Hid _ := h6
          have H7 : Hid _ := h7
          have H11 : Hid _ := h11
          have H12 : Hid _ := h12
          have H13 : Hid _ := h13
          have H17 : Hid _ := h17
          have H18 : Hid _ := h18
          have H19 : Hid _ := h19
          have H20 : Hid _ := h20
          have H21 : Hid _ := h21
          clear h1 h2 h6 h7 h11 h12 h13 h17 h18 h19 h20 h21 hdep
          go_simp
          refine hK.out _ _ ⟨x46, .int .u32 (cX : Int), x51, x52, x56, x57, x58, x62, x63, .int .u32 (cX : Int), .bool true, x6, rfl, ⟨hB, hBw⟩, fun h => H1.out (up_keep h (by decide)), fun h => H2.out (up_keep h (by decide)), fun h => H6.out (up_keep h (by decide)), fun h => H7.out (up_keep h (by decide)), fun h => H11.out (up_keep h (by decide)), fun h => H12.out (up_keep h (by decide)), fun h => H13.out (up_keep h (by decide)), fun h => H17.out (up_keep h (by decide)), fun h => H18.out (up_keep h (by decide)), fun h => H19.out (up_keep h (by decide)), fun _ => rfl, fun h => H21.out (up_keep h (by decide))⟩
        · obtain ⟨x46, x47, x51, x52, x56, x57, x58, x62, x63, x64, x65, x6, rfl, ⟨hB, hBw⟩, h1, h2, h6, h7, h11, h12, h13, h17, h18, h19, h20, h21⟩ := hI
          have d20 := h20 (hdep { on := 20, ground := .data } (by simp) rfl)
          subst d20
          have H1 : Hid _ := h1
          have H2 : Hid _ := h2
          have H6 : Hid _ := h6
          have H7 : Hid _ := h7
          have H11 : Hid _ := h11
          have H12 : Hid _ := h12
          have H13 : Hid _ := h13
          have H17 : Hid _ := h17
          have H18 : Hid _ := h18
          have H19 : Hid _ := h19
          have H20 : Hid _ := h20
          have H21 : Hid _ := h21
          clear h1 h2 h6 h7 h11 h12 h13 h17 h18 h19 h20 h21 hdep
          go_simp
          refine hK.out _ _ ⟨x46, x47, x51, x52, x56, x57, x58, x62, x63, x64, .bool true, .bool true, rfl, ⟨hB, hBw⟩, fun h => H1.out (up_keep h (by decide)), fun h => H2.out (up_keep h (by decide)), fun h => H6.out (up_keep h (by decide)), fun h => H7.out (up_keep h (by decide)), fun h => H11.out (up_keep h (by decide)), fun h => H12.out (up_keep h (by decide)), fun h => H13.out (up_keep h (by decide)), fun h => H17.out (up_keep h (by decide)), fun h => H18.out (up_keep h (by decide)), fun h => H19.out (up_keep h (by decide)), fun h => H20.out (up_keep h (by decide)), fun _ => rfl⟩
      · simp only [Act.put, List.setIfInBounds_toArray, List.set_cons_zero, List.set_cons_succ]
        rintro l a w ⟨x46, x47, x51, x52, x56, x57, x58, x62, x63, x64, x65, x6, rfl, ⟨hB, hBw⟩, h1, h2, h6, h7, h11, h12, h13, h17, h18, h19, h20, h21⟩ hall
        have e := h21 (hall 21 (by decide))
        subst e
        clear h1 h2 h6 h7 h11 h12 h13 h17 h18 h19 h20 h21 hall
        go_wp2
        go_ret
        exact ⟨rfl, hB⟩
end Go.Proofs.YtpffjeoiacaihaaDoor

/-
  Walk of sha.padding: what stands behind so many bytes.
-/
import Derived.Test.YteockpllnhjooaaGreatDoorShaKit
import Derived.Test.YteockpllnhjooaaGreatDoorFnRefFixed
namespace Go.Proofs.YteockpllnhjooaaGreatDoor
open Go.RowKit NumMath
set_option maxRecDepth 100000
set_option linter.unusedVariables false
set_option linter.unusedSimpArgs false

/-- Natural numbers as the walk's. -/
def ints (l : List Nat) : List Int := l.map fun (x : Nat) => (x : Int)
theorem ints_len (l : List Nat) : (ints l).length = l.length := by simp [ints]
theorem ints_u8 (l : List Nat) : (ints l).map (Value.int .u8) = u8v l := by simp [ints, u8v]
theorem nats_ints (l : List Nat) : nats (ints l) = l := by
  unfold nats ints; rw [List.map_map]
  exact (List.map_congr_left (fun x _ => by simp)).trans (List.map_id _)
theorem ints_byte {l : List Nat} (h : ∀ c ∈ l, c < 256) : ∀ c ∈ ints l, 0 ≤ c ∧ c ≤ 255 := by
  intro c hc; obtain ⟨x, hx, rfl⟩ := List.mem_map.1 hc; have := h x hx; omega

def padT (n k : Nat) : List Nat := List.replicate (8 - k) 0 ++ (ShaMath.fix8 (8 * n)).drop (8 - k)
def padAt (n k : Nat) : List Nat := 128 :: (List.replicate (ShaMath.zerosOf n) 0 ++ padT n k)
theorem padT_step (n k : Nat) (h : k < 8) : padT n (k + 1) = (padT n k).set (7 - k) (8 * n / 256 ^ k % 256) := by
  match k, h with
  | 0, _ => simp [padT, ShaMath.fix8]
  | 1, _ => simp [padT, ShaMath.fix8]
  | 2, _ => simp [padT, ShaMath.fix8]
  | 3, _ => simp [padT, ShaMath.fix8]
  | 4, _ => simp [padT, ShaMath.fix8]
  | 5, _ => simp [padT, ShaMath.fix8]
  | 6, _ => simp [padT, ShaMath.fix8]
  | 7, _ => simp [padT, ShaMath.fix8]
theorem padT_len (n k : Nat) (h : k ≤ 8) : (padT n k).length = 8 := by simp [padT, ShaMath.fix8] <;> omega
theorem padAt_len (n k : Nat) (h : k ≤ 8) : (padAt n k).length = ShaMath.zerosOf n + 9 := by simp [padAt, padT_len n k h]
theorem padAt_step (n k : Nat) (h : k < 8) : padAt n (k + 1) = (padAt n k).set (ShaMath.zerosOf n + 8 - k) (8 * n / 256 ^ k % 256) := by
  unfold padAt
  rw [padT_step n k h, show ShaMath.zerosOf n + 8 - k = (ShaMath.zerosOf n + (7 - k)) + 1 by omega, List.set_cons_succ, List.set_append_right _ _ (by simp)]
  simp
theorem padAt_end (n : Nat) : padAt n 8 = ShaMath.pad n := by simp [padAt, padT, ShaMath.pad]
theorem padAt_zero (n : Nat) : padAt n 0 = 128 :: List.replicate (ShaMath.zerosOf n + 8) 0 := by
  unfold padAt padT
  rw [show (ShaMath.fix8 (8 * n)).drop (8 - 0) = [] from rfl, List.append_nil, List.replicate_append_replicate]
theorem fix8_lt (n : Nat) : ∀ c ∈ ShaMath.fix8 n, c < 256 := by
  intro c hc; simp [ShaMath.fix8] at hc; omega
theorem pad_lt (n : Nat) : ∀ c ∈ ShaMath.pad n, c < 256 := by
  intro c hc
  simp only [ShaMath.pad, List.mem_cons, List.mem_append, List.mem_replicate] at hc
  rcases hc with h | h | h
  · omega
  · omega
  · exact fix8_lt _ c h

theorem made0 (n : Nat) : (madeCells (Value.int .u8 0).cells (n * 1)).toList = u8v (List.replicate n 0) := by
  rw [Nat.mul_one, show (Value.int .u8 0).cells = #[.int .u8 0] from rfl, toList_madeCells_one]
  simp [u8v]
theorem own_arr {w : World} {base g n : Nat} {xs : List Value} (h : w.ownsRow base 5 1 (.slice (some ⟨g, 0, none⟩) n n) n xs) : Arr w g 5 xs := by
  rcases h.2 with ⟨h', _⟩ | ⟨g', cap', cur, h', _, hg, _, _, hcs, htake⟩
  · simp at h'
  · simp only [Value.slice.injEq, Option.some.injEq, Addr.mk.injEq, and_true, true_and] at h'
    obtain ⟨rfl, rfl⟩ := h'
    unfold Arr
    rw [hg, ← htake, List.take_of_length_le (by simp [hcs])]
theorem arr_row {w : World} {g t : Nat} {l : List Nat} (h : Arr w g t (u8v l)) : Row .u8 w (some ⟨g, 0, none⟩) (ints l) := by
  refine .inr ⟨g, 0, rfl, fun i hi => ?_⟩
  have hi' : i < l.length := by simpa [ints] using hi
  rw [Nat.zero_add, h.cell8 i hi']
  simp [ints, hi']

theorem padding_any (n : Nat) (w : World) (hn : n < 1152921504606846976) :
    Calls Tryz.prog 70 #[.int .u64 (n : Int)] w fun e w' => e = .returned (.slice (some ⟨w.heap.size, 0, none⟩) (ShaMath.pad n).length (ShaMath.pad n).length) ∧ Row .u8 w' (some ⟨w.heap.size, 0, none⟩) (ints (ShaMath.pad n)) ∧ Below w.heap.size w w' := by
  obtain ⟨i0, hi, hz0, hz1, hz2⟩ := info_parts Tryz.info5
  obtain ⟨z, hz⟩ : ∃ z : Nat, z = ShaMath.zerosOf n := ⟨_, rfl⟩
  have hzl : z < 64 := by rw [hz]; exact Nat.mod_lt _ (by decide)
  have hz' : (119 - (n : Int) % 64) % 64 = (z : Int) := by rw [hz]; unfold ShaMath.zerosOf; omega
  have HZ : Hid (z = ShaMath.zerosOf n) := hz
  clear hz
  go_enter Tryz.func70, Tryz.ntmps70
  go_wp2_with (at_make; refine wpList_make_full _ rfl _ _ 48 rfl w.heap.size 5 i0 (.int .u8 0) 1 Tryz.underlying48 hi hz0 hz1 _ _ _ _ (z + 9) rfl rfl (by omega) (by omega) (by rw [hz2]; omega) (by unfold maxLen; omega) (Nat.le_refl _) ?_; intro w0 hown0 hgrow0; rw [made0] at hown0; have hA0 := own_arr hown0; have hb0 : Below w.heap.size w w0 := (Below.refl _ _).grown hgrow0 (Nat.le_refl _) (fun k h => by cases h); have hc0 := hA0.cell8 0 (by simp); have hf0 := hA0.frozen 0; clear hown0 hgrow0)
  have hA1 := hA0.set 0 (.int .u8 128)
  rw [show (.int .u8 128 : Value) = .int .u8 ((128 : Nat) : Int) from rfl, u8v_set, show (List.replicate (z + 9) 0).set 0 128 = padAt n 0 by rw [padAt_zero, ← HZ.out, show z + 9 = (z + 8) + 1 from rfl, List.replicate_succ]; rfl] at hA1
  have hb1 : Below w.heap.size w (w0.setCell ⟨w.heap.size, 0, none⟩ (.int .u8 128)) := hb0.setCell (Nat.le_refl _) _
  clear hA0 hc0 hf0 hb0
  generalize w0.setCell ⟨w.heap.size, 0, none⟩ (.int .u8 128) = w1 at *
  go_loopw [16] (fun i wr => ∃ k : Nat, k ≤ 8 ∧ i = .int .i64 k ∧ Arr wr w.heap.size 5 (u8v (padAt n k)) ∧ Below w.heap.size w wr) (fun i _ => 8 - (intOf i).toNat)
  case atStart => exact ⟨0, by omega, rfl, hA1, hb1⟩
  case round =>
    obtain ⟨k, hk, rfl, hA, hBw⟩ := hrel
    clear hA1 hb1
    by_cases hlt : k < 8
    · have hstep := padAt_step n k hlt
      rw [← HZ.out] at hstep
      have hlen := padAt_len n k hk
      rw [← HZ.out] at hlen
      obtain ⟨q, hq1, hq⟩ : ∃ q : Nat, (z : Int) + 9 - 1 - (k : Int) = (q : Int) ∧ q = z + 8 - k := ⟨z + 8 - k, by omega, rfl⟩
      have hcell := hA.cell8 q (by omega)
      have hfz := hA.frozen q
      have h2 := two8 k
      obtain ⟨x, hx, gx⟩ : ∃ x : Nat, (8 * (n : Int)) / 256 ^ k % 256 = (x : Int) ∧ x = 8 * n / 256 ^ k % 256 := ⟨_, by simp, rfl⟩
      rw [← gx, ← hq] at hstep
      have HST : Hid _ := hstep
      have HA : Hid _ := hA
      have hql : q < z + 9 := by omega
      clear hstep hA gx hq hlen
      go_wp2
      go_roundw
      case rel => exact ⟨k + 1, by omega, by go_num, by rw [HST.out, ← u8v_set]; exact Arr.set HA.out _ _, hBw.setCell (Nat.le_refl _) _⟩
      case measure => simp [intOf]; omega
    · obtain rfl : k = 8 := by omega
      rw [padAt_end] at hA
      have HA : Hid _ := hA
      clear hA hlt
      go_wp2
      go_ret
      have hl : z + 9 = (ShaMath.pad n).length := by rw [ShaMath.pad_len, ← HZ.out]; omega
      exact ⟨by rw [← hl]; rfl, arr_row HA.out, hBw⟩

end Go.Proofs.YteockpllnhjooaaGreatDoor

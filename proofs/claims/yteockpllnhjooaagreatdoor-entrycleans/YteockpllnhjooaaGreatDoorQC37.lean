/-
  FnShaPad, FnShaStir, ShaTab.
-/
import Derived.Test.YteockpllnhjooaaGreatDoorQC05
import Derived.Test.YteockpllnhjooaaGreatDoorQC36
namespace Go.Proofs.YteockpllnhjooaaGreatDoor
open Go.RowKit NumMath
set_option maxRecDepth 100000
set_option linter.unusedVariables false
set_option linter.unusedSimpArgs false

/-- Natural numbers as the walk's. -/
def ints (l : List Nat) : List Int := l.map fun (x : Nat) => (x : Int)
theorem ints_len (l : List Nat) : (ints l).length = l.length := by simp [ints]
theorem ints_u8 (l : List Nat) : (ints l).map (Value.int .u8) = u8v l := by simp [ints, u8v]
theorem nats_ints (l : List Nat) : nats (ints l) = l := by
  unfold nats ints; rw [List.map_map]
  exact (List.map_congr_left (fun x _ => by simp)).trans (List.map_id _)
theorem ints_byte {l : List Nat} (h : ∀ c ∈ l, c < 256) : ∀ c ∈ ints l, 0 ≤ c ∧ c ≤ 255 := by
  intro c hc; obtain ⟨x, hx, rfl⟩ := List.mem_map.1 hc; have := h x hx; omega

def padT (n k : Nat) : List Nat := List.replicate (8 - k) 0 ++ (ShaMath.fix8 (8 * n)).drop (8 - k)
def padAt (n k : Nat) : List Nat := 128 :: (List.replicate (ShaMath.zerosOf n) 0 ++ padT n k)
theorem padT_step (n k : Nat) (h : k < 8) : padT n (k + 1) = (padT n k).set (7 - k) (8 * n / 256 ^ k % 256) := by
  match k, h with
  | 0, _ => simp [padT, ShaMath.fix8]
  | 1, _ => simp [padT, ShaMath.fix8]
  | 2, _ => simp [padT, ShaMath.fix8]
  | 3, _ => simp [padT, ShaMath.fix8]
  | 4, _ => simp [padT, ShaMath.fix8]
  | 5, _ => simp [padT, ShaMath.fix8]
  | 6, _ => simp [padT, ShaMath.fix8]
  | 7, _ => simp [padT, ShaMath.fix8]
theorem padT_len (n k : Nat) (h : k ≤ 8) : (padT n k).length = 8 := by simp [padT, ShaMath.fix8] <;> omega
theorem padAt_len (n k : Nat) (h : k ≤ 8) : (padAt n k).length = ShaMath.zerosOf n + 9 := by simp [padAt, padT_len n k h]
theorem padAt_step (n k : Nat) (h : k < 8) : padAt n (k + 1) = (padAt n k).set (ShaMath.zerosOf n + 8 - k) (8 * n / 256 ^ k % 256) := by
  unfold padAt
  rw [padT_step n k h, show ShaMath.zerosOf n + 8 - k = (ShaMath.zerosOf n + (7 - k)) + 1 by omega, List.set_cons_succ, List.set_append_right _ _ (by simp)]
  simp
theorem padAt_end (n : Nat) : padAt n 8 = ShaMath.pad n := by simp [padAt, padT, ShaMath.pad]
theorem padAt_zero (n : Nat) : padAt n 0 = 128 :: List.replicate (ShaMath.zerosOf n + 8) 0 := by
  unfold padAt padT
  rw [show (ShaMath.fix8 (8 * n)).drop (8 - 0) = [] from rfl, List.append_nil, List.replicate_append_replicate]
theorem fix8_lt (n : Nat) : ∀ c ∈ ShaMath.fix8 n, c < 256 := by
  intro c hc; simp [ShaMath.fix8] at hc; omega
theorem pad_lt (n : Nat) : ∀ c ∈ ShaMath.pad n, c < 256 := by
  intro c hc
  simp only [ShaMath.pad, List.mem_cons, List.mem_append, List.mem_replicate] at hc
  rcases hc with h | h | h
  · omega
  · omega
  · exact fix8_lt _ c h

theorem made0 (n : Nat) : (madeCells (Value.int .u8 0).cells (n * 1)).toList = u8v (List.replicate n 0) := by
  rw [Nat.mul_one, show (Value.int .u8 0).cells = #[.int .u8 0] from rfl, toList_madeCells_one]
  simp [u8v]
theorem own_arr {w : World} {base g n : Nat} {xs : List Value} (h : w.ownsRow base 5 1 (.slice (some ⟨g, 0, none⟩) n n) n xs) : Arr w g 5 xs := by
  rcases h.2 with ⟨h', _⟩ | ⟨g', cap', cur, h', _, hg, _, _, hcs, htake⟩
  · simp at h'
  · simp only [Value.slice.injEq, Option.some.injEq, Addr.mk.injEq, and_true, true_and] at h'
    obtain ⟨rfl, rfl⟩ := h'
    unfold Arr
    rw [hg, ← htake, List.take_of_length_le (by simp [hcs])]
theorem arr_row {w : World} {g t : Nat} {l : List Nat} (h : Arr w g t (u8v l)) : Row .u8 w (some ⟨g, 0, none⟩) (ints l) := by
  refine .inr ⟨g, 0, rfl, fun i hi => ?_⟩
  have hi' : i < l.length := by simpa [ints] using hi
  rw [Nat.zero_add, h.cell8 i hi']
  simp [ints, hi']

theorem padding_any (n : Nat) (w : World) (hn : n < 1152921504606846976) :
    Calls Tryz.prog 70 #[.int .u64 (n : Int)] w fun e w' => e = .returned (.slice (some ⟨w.heap.size, 0, none⟩) (ShaMath.pad n).length (ShaMath.pad n).length) ∧ Row .u8 w' (some ⟨w.heap.size, 0, none⟩) (ints (ShaMath.pad n)) ∧ Below w.heap.size w w' := by
  obtain ⟨i0, hi, hz0, hz1, hz2⟩ := info_parts Tryz.info5
  obtain ⟨z, hz⟩ : ∃ z : Nat, z = ShaMath.zerosOf n := ⟨_, rfl⟩
  have hzl : z < 64 := by rw [hz]; exact Nat.mod_lt _ (by decide)
  have hz' : (119 - (n : Int) % 64) % 64 = (z : Int) := by rw [hz]; unfold ShaMath.zerosOf; omega
  have HZ : Hid (z = ShaMath.zerosOf n) := hz
  clear hz
  go_enter Tryz.func70, Tryz.ntmps70
  go_wp2_with (at_make; refine wpList_make_full _ rfl _ _ 48 rfl w.heap.size 5 i0 (.int .u8 0) 1 Tryz.underlying48 hi hz0 hz1 _ _ _ _ (z + 9) rfl rfl (by omega) (by omega) (by rw [hz2]; omega) (by unfold maxLen; omega) (Nat.le_refl _) ?_; intro w0 hown0 hgrow0; rw [made0] at hown0; have hA0 := own_arr hown0; have hb0 : Below w.heap.size w w0 := (Below.refl _ _).grown hgrow0 (Nat.le_refl _) (fun k h => by cases h); have hc0 := hA0.cell8 0 (by simp); have hf0 := hA0.frozen 0; clear hown0 hgrow0)
  have hA1 := hA0.set 0 (.int .u8 128)
  rw [show (.int .u8 128 : Value) = .int .u8 ((128 : Nat) : Int) from rfl, u8v_set, show (List.replicate (z + 9) 0).set 0 128 = padAt n 0 by rw [padAt_zero, ← HZ.out, show z + 9 = (z + 8) + 1 from rfl, List.replicate_succ]; rfl] at hA1
  have hb1 : Below w.heap.size w (w0.setCell ⟨w.heap.size, 0, none⟩ (.int .u8 128)) := hb0.setCell (Nat.le_refl _) _
  clear hA0 hc0 hf0 hb0
  generalize w0.setCell ⟨w.heap.size, 0, none⟩ (.int .u8 128) = w1 at *
  go_loopw [16] (fun i wr => ∃ k : Nat, k ≤ 8 ∧ i = .int .i64 k ∧ Arr wr w.heap.size 5 (u8v (padAt n k)) ∧ Below w.heap.size w wr) (fun i _ => 8 - (intOf i).toNat)
  case atStart => exact ⟨0, by omega, rfl, hA1, hb1⟩
  case round =>
    obtain ⟨k, hk, rfl, hA, hBw⟩ := hrel
    clear hA1 hb1
    by_cases hlt : k < 8
    · have hstep := padAt_step n k hlt
      rw [← HZ.out] at hstep
      have hlen := padAt_len n k hk
      rw [← HZ.out] at hlen
      obtain ⟨q, hq1, hq⟩ : ∃ q : Nat, (z : Int) + 9 - 1 - (k : Int) = (q : Int) ∧ q = z + 8 - k := ⟨z + 8 - k, by omega, rfl⟩
      have hcell := hA.cell8 q (by omega)
      have hfz := hA.frozen q
      have h2 := two8 k
      obtain ⟨x, hx, gx⟩ : ∃ x : Nat, (8 * (n : Int)) / 256 ^ k % 256 = (x : Int) ∧ x = 8 * n / 256 ^ k % 256 := ⟨_, by simp, rfl⟩
      rw [← gx, ← hq] at hstep
      have HST : Hid _ := hstep
      have HA : Hid _ := hA
      have hql : q < z + 9 := by omega
      clear hstep hA gx hq hlen
      go_wp2
      go_roundw
      case rel => exact ⟨k + 1, by omega, by go_num, by rw [HST.out, ← u8v_set]; exact Arr.set HA.out _ _, hBw.setCell (Nat.le_refl _) _⟩
      case measure => simp [intOf]; omega
    · obtain rfl : k = 8 := by omega
      rw [padAt_end] at hA
      have HA : Hid _ := hA
      clear hA hlt
      go_wp2
      go_ret
      have hl : z + 9 = (ShaMath.pad n).length := by rw [ShaMath.pad_len, ← HZ.out]; omega
      exact ⟨by rw [← hl]; rfl, arr_row HA.out, hBw⟩

end Go.Proofs.YteockpllnhjooaaGreatDoor
namespace Go.Proofs.YteockpllnhjooaaGreatDoor
open Go.RowKit NumMath
set_option maxRecDepth 100000
set_option linter.unusedVariables false
set_option linter.unusedSimpArgs false
attribute [-simp] Tryz.isAgg131 Tryz.sizeOf131 Tryz.zeroValue131 Tryz.isAgg116 Tryz.sizeOf116 Tryz.zeroValue116 Tryz.isAgg113 Tryz.sizeOf113 Tryz.zeroValue113

/-- The listed variables' cells. -/
structure Tabs (w : World) : Prop where
  first : ∀ i, i < 8 → w.cell? ⟨0, i, none⟩ = some (.int .u32 ((ShaMath.init.list[i]?.getD 0 : Nat) : Int))
  shaK : ∀ i, i < 64 → w.cell? ⟨2, i, none⟩ = some (.int .u32 ((ShaMath.keys[i]?.getD 0 : Nat) : Int))
theorem Tabs.lt {w : World} (h : Tabs w) : 2 < w.heap.size := World.block_lt_of_cell? w _ (h.shaK 0 (by decide))
theorem Tabs.later {w w' : World} {B : Nat} (h : Tabs w) (hb : Below B w w') (hB : 2 < B) : Tabs w' where
  first i hi := by rw [hb.cell (by show 0 < B; omega)]; exact h.first i hi
  shaK i hi := by rw [hb.cell (by show 2 < B; omega)]; exact h.shaK i hi
theorem keys_lt : ∀ x ∈ ShaMath.keys, x < 4294967296 := by decide
theorem keys_len : ShaMath.keys.length = 64 := by decide

theorem big1_bits (x : Nat) : ((ShaMath.rotr x 6 ^^^ ShaMath.rotr x 11 ^^^ ShaMath.rotr x 25 : Nat) : Int) = (ShaMath.big1 x : Nat) := rfl
theorem and_lt32 {a b : Nat} (ha : a < 4294967296) : a &&& b < 4294967296 := Nat.lt_of_le_of_lt Nat.and_le_left ha
theorem ch_bits (e f g : Nat) (he : e < 4294967296) (hf : f < 4294967296) (hg : g < 4294967296) :
    bits .xor .u32 (bits .and .u32 (e : Int) f) (bits .and .u32 (bits .xor .u32 IntKind.u32.max (e : Int)) g) = ((ShaMath.ch e f g : Nat) : Int) := by
  have h1 : bits .xor .u32 IntKind.u32.max (e : Int) = ((4294967295 ^^^ e : Nat) : Int) := u32_xor_nat 4294967295 e (by decide) he
  rw [h1, u32_and_nat _ _ he hf, u32_and_nat _ _ (xor_lt32 (by decide) he) hg, u32_xor_nat _ _ (and_lt32 he) (and_lt32 (xor_lt32 (by decide) he))]
  rfl
theorem maj_bits (a b c : Nat) (ha : a < 4294967296) (hb : b < 4294967296) (hc : c < 4294967296) :
    bits .xor .u32 (bits .xor .u32 (bits .and .u32 (a : Int) b) (bits .and .u32 (a : Int) c)) (bits .and .u32 (b : Int) c) = ((ShaMath.maj a b c : Nat) : Int) := by
  rw [u32_and_nat _ _ ha hb, u32_and_nat _ _ ha hc, u32_and_nat _ _ hb hc, u32_xor_nat _ _ (and_lt32 ha) (and_lt32 ha), u32_xor_nat _ _ (xor_lt32 (and_lt32 ha) (and_lt32 ha)) (and_lt32 hb)]
  rfl

theorem addw (a b : Nat) : ∃ x : Nat, IntKind.u32.wrap ((a : Int) + b) = x ∧ ((a : Int) + b) % 4294967296 = x ∧ x = (a + b) % 4294967296 :=
  ⟨(a + b) % 4294967296, by rw [wrap32]; omega, by omega, rfl⟩
theorem andw (a b : Nat) (ha : a < 4294967296) (hb : b < 4294967296) : ∃ x : Nat, bits .and .u32 (a : Int) b = x ∧ x = a &&& b := ⟨_, u32_and_nat a b ha hb, rfl⟩
theorem xorw (a b : Nat) (ha : a < 4294967296) (hb : b < 4294967296) : ∃ x : Nat, bits .xor .u32 (a : Int) b = x ∧ x = a ^^^ b := ⟨_, u32_xor_nat a b ha hb, rfl⟩
theorem notw (e : Nat) (he : e < 4294967296) : ∃ x : Nat, bits .xor .u32 (if IntKind.u32.signed = true then -1 else IntKind.u32.max) (e : Int) = x ∧ bits .xor .u32 IntKind.u32.max (e : Int) = x ∧ x = 4294967295 ^^^ e :=
  ⟨_, u32_xor_nat 4294967295 e (by decide) he, u32_xor_nat 4294967295 e (by decide) he, rfl⟩
/-- What one round makes, step by step. -/
theorem round_steps (S : ShaMath.St) (K X : Nat) (h : S.ok) : ∃ x43 x46 x48 x50 x51 x52 x56 x60 x65 x68 x69 x72 x73 x74 x77 x83 : Nat,
    (IntKind.u32.wrap ((S.h : Int) + (ShaMath.big1 S.e : Nat)) = x43 ∧ ((S.h : Int) + (ShaMath.big1 S.e : Nat)) % 4294967296 = x43) ∧
    bits .and .u32 (S.e : Int) S.f = x46 ∧
    (bits .xor .u32 (if IntKind.u32.signed = true then -1 else IntKind.u32.max) (S.e : Int) = x48 ∧ bits .xor .u32 IntKind.u32.max (S.e : Int) = x48) ∧
    bits .and .u32 (x48 : Int) S.g = x50 ∧ bits .xor .u32 (x46 : Int) x50 = x51 ∧
    (IntKind.u32.wrap ((x43 : Int) + x51) = x52 ∧ ((x43 : Int) + x51) % 4294967296 = x52) ∧
    (IntKind.u32.wrap ((x52 : Int) + K) = x56 ∧ ((x52 : Int) + K) % 4294967296 = x56) ∧
    (IntKind.u32.wrap ((x56 : Int) + X) = x60 ∧ ((x56 : Int) + X) % 4294967296 = x60) ∧
    bits .and .u32 (S.a : Int) S.b = x65 ∧ bits .and .u32 (S.a : Int) S.c = x68 ∧ bits .xor .u32 (x65 : Int) x68 = x69 ∧ bits .and .u32 (S.b : Int) S.c = x72 ∧ bits .xor .u32 (x69 : Int) x72 = x73 ∧
    (IntKind.u32.wrap (((ShaMath.big0 S.a : Nat) : Int) + x73) = x74 ∧ (((ShaMath.big0 S.a : Nat) : Int) + x73) % 4294967296 = x74) ∧
    (IntKind.u32.wrap ((x60 : Int) + x74) = x77 ∧ ((x60 : Int) + x74) % 4294967296 = x77) ∧
    (IntKind.u32.wrap ((S.d : Int) + x60) = x83 ∧ ((S.d : Int) + x60) % 4294967296 = x83) ∧
    ShaMath.round S K X = ⟨x77, S.a, S.b, S.c, x83, S.e, S.f, S.g⟩ ∧ x60 < 4294967296 ∧ x74 < 4294967296 := by
  obtain ⟨ha, hb, hc, hd, he, hf, hg, hh⟩ := h
  obtain ⟨x43, e43, f43, g43⟩ := addw S.h (ShaMath.big1 S.e)
  obtain ⟨x46, e46, g46⟩ := andw S.e S.f he hf
  obtain ⟨x48, e48, f48, g48⟩ := notw S.e he
  have l46 : x46 < 4294967296 := by rw [g46]; exact and_lt32 he
  have l48 : x48 < 4294967296 := by rw [g48]; exact xor_lt32 (by decide) he
  obtain ⟨x50, e50, g50⟩ := andw x48 S.g l48 hg
  have l50 : x50 < 4294967296 := by rw [g50]; exact and_lt32 l48
  obtain ⟨x51, e51, g51⟩ := xorw x46 x50 l46 l50
  obtain ⟨x52, e52, f52, g52⟩ := addw x43 x51
  obtain ⟨x56, e56, f56, g56⟩ := addw x52 K
  obtain ⟨x60, e60, f60, g60⟩ := addw x56 X
  obtain ⟨x65, e65, g65⟩ := andw S.a S.b ha hb
  obtain ⟨x68, e68, g68⟩ := andw S.a S.c ha hc
  have l65 : x65 < 4294967296 := by rw [g65]; exact and_lt32 ha
  have l68 : x68 < 4294967296 := by rw [g68]; exact and_lt32 ha
  obtain ⟨x69, e69, g69⟩ := xorw x65 x68 l65 l68
  obtain ⟨x72, e72, g72⟩ := andw S.b S.c hb hc
  have l69 : x69 < 4294967296 := by rw [g69]; exact xor_lt32 l65 l68
  have l72 : x72 < 4294967296 := by rw [g72]; exact and_lt32 hb
  obtain ⟨x73, e73, g73⟩ := xorw x69 x72 l69 l72
  obtain ⟨x74, e74, f74, g74⟩ := addw (ShaMath.big0 S.a) x73
  obtain ⟨x77, e77, f77, g77⟩ := addw x60 x74
  obtain ⟨x83, e83, f83, g83⟩ := addw S.d x60
  have hch : x51 = ShaMath.ch S.e S.f S.g := by rw [g51, g50, g48, g46]; rfl
  have hmj : x73 = ShaMath.maj S.a S.b S.c := by rw [g73, g72, g69, g68, g65]; rfl
  have htt : x60 = ShaMath.tt S K X := by unfold ShaMath.tt; rw [← hch]; omega
  have huu : x74 = ShaMath.uu S := by unfold ShaMath.uu; rw [← hmj]; exact g74
  refine ⟨x43, x46, x48, x50, x51, x52, x56, x60, x65, x68, x69, x72, x73, x74, x77, x83, ⟨e43, f43⟩, e46, ⟨e48, f48⟩, e50, e51, ⟨e52, f52⟩, ⟨e56, f56⟩, ⟨e60, f60⟩, e65, e68, e69, e72, e73, ⟨e74, f74⟩, ⟨e77, f77⟩, ⟨e83, f83⟩, ?_, by omega, by omega⟩
  unfold ShaMath.round
  rw [← htt, ← huu, ← g77, ← g83]

/-- The words once k of them are added. -/
def addAt (s V : ShaMath.St) (k : Nat) : List Nat := (ShaMath.addS s V).list.take k ++ s.list.drop k
theorem list8 (s : ShaMath.St) : s.list.length = 8 := rfl
theorem addAt_len (s V : ShaMath.St) (k : Nat) (h : k ≤ 8) : (addAt s V k).length = 8 := by simp [addAt, list8]; omega
theorem addAt_end (s V : ShaMath.St) : addAt s V 8 = (ShaMath.addS s V).list := rfl
theorem addAt_get (s V : ShaMath.St) (k : Nat) (h : k < 8) : (addAt s V k)[k]?.getD 0 = s.list[k]?.getD 0 := by
  match k, h with
  | 0, _ => rfl
  | 1, _ => rfl
  | 2, _ => rfl
  | 3, _ => rfl
  | 4, _ => rfl
  | 5, _ => rfl
  | 6, _ => rfl
  | 7, _ => rfl
theorem addAt_step (s V : ShaMath.St) (k : Nat) (h : k < 8) : addAt s V (k + 1) = (addAt s V k).set k ((s.list[k]?.getD 0 + V.list[k]?.getD 0) % 4294967296) := by
  match k, h with
  | 0, _ => rfl
  | 1, _ => rfl
  | 2, _ => rfl
  | 3, _ => rfl
  | 4, _ => rfl
  | 5, _ => rfl
  | 6, _ => rfl
  | 7, _ => rfl

set_option maxHeartbeats 4000000 in
theorem stirred_any (s : ShaMath.St) (bs : List Nat) (w : World) (ht : Tabs w) (hs : s.ok) (hl : bs.length = 64) (hb : ∀ c ∈ bs, c < 256) :
    Calls Tryz.prog 69 #[.agg (u32s s.list).toArray, .agg (u8v bs).toArray] w fun e w' => e = .returned (.agg (u32s (ShaMath.comp s bs).list).toArray) ∧ Below w.heap.size w w' := by
  obtain ⟨z58, i58⟩ := zero_of_info zero58
  obtain ⟨z47, i47⟩ := zero_of_info zero47
  obtain ⟨Sv, hSv⟩ : ∃ Sv, Sv = u32s s.list := ⟨_, rfl⟩
  obtain ⟨Bv, hBv⟩ : ∃ Bv, Bv = u8v bs := ⟨_, rfl⟩
  obtain ⟨Z, hZ⟩ : ∃ Z, Z = u32s (List.replicate 64 0) := ⟨_, rfl⟩
  obtain ⟨Z8, hZ8⟩ : ∃ Z, Z = u32s (List.replicate 8 0) := ⟨_, rfl⟩
  rw [← hZ] at z58
  rw [← hZ8] at z47
  rw [← hBv, ← hSv]
  have HS : Hid (Sv = u32s s.list) := hSv
  have HB : Hid (Bv = u8v bs) := hBv
  have HI : Hid ((Tryz.prog.info? 116).map (·.size) = some Bv.length) := by show _ = _; rw [hBv, u8v_len, hl]; exact (zero_of_info zero49).2
  have HZ : Hid (Z = u32s (List.replicate 64 0)) := hZ
  have HZ8 : Hid (Z8 = u32s (List.replicate 8 0)) := hZ8
  have HL : Hid (bs.length = 64) := hl
  have HT : Hid (Tabs w) := ht
  clear hBv hZ hl i58 i47 hSv hZ8 ht
  go_enter Tryz.func69, Tryz.ntmps69
  go_wp2_with fail
  have hA2 : Arr (((w.alloc (Obj.cells Sv.toArray 113)).alloc (Obj.cells Bv.toArray 116)).alloc (Obj.cells Z8.toArray 113)) w.heap.size 113 Sv := ((Arr.new _ 113 Sv rfl).alloc _).alloc _
  have hA3 : Arr (((w.alloc (Obj.cells Sv.toArray 113)).alloc (Obj.cells Bv.toArray 116)).alloc (Obj.cells Z8.toArray 113)) (w.heap.size + 1) 116 Bv := (Arr.new _ 116 Bv (by simp)).alloc _
  have hA4 : Arr (((w.alloc (Obj.cells Sv.toArray 113)).alloc (Obj.cells Bv.toArray 116)).alloc (Obj.cells Z8.toArray 113)) (w.heap.size + 1 + 1) 113 Z8 := Arr.new _ 113 Z8 (by simp)
  have hBl : Below w.heap.size w (((w.alloc (Obj.cells Sv.toArray 113)).alloc (Obj.cells Bv.toArray 116)).alloc (Obj.cells Z8.toArray 113)) := (((Below.refl _ _).alloc (Nat.le_refl _) _).alloc (by simp) _).alloc (by simp; omega) _
  have hsz1 : (((w.alloc (Obj.cells Sv.toArray 113)).alloc (Obj.cells Bv.toArray 116)).alloc (Obj.cells Z8.toArray 113)).heap.size = w.heap.size + 1 + 1 + 1 := by simp
  generalize (((w.alloc (Obj.cells Sv.toArray 113)).alloc (Obj.cells Bv.toArray 116)).alloc (Obj.cells Z8.toArray 113)) = w1 at *
  obtain ⟨g4, hg4⟩ : ∃ g, g = w.heap.size + 1 + 1 := ⟨_, rfl⟩
  obtain ⟨g3, hg3⟩ : ∃ g, g = w.heap.size + 1 := ⟨_, rfl⟩
  obtain ⟨g2, hg2⟩ : ∃ g, g = w.heap.size := ⟨_, rfl⟩
  have G2 : Hid (g2 = w.heap.size) := hg2
  have G3 : Hid (g3 = w.heap.size + 1) := hg3
  have G4 : Hid (g4 = w.heap.size + 1 + 1) := hg4
  have HSZ : Hid (w1.heap.size = w.heap.size + 1 + 1 + 1) := hsz1
  rw [← hg4] at hA4 ⊢
  rw [← hg3] at hA3 ⊢
  rw [← hg2] at hA2
  have hA2' : Arr w1 g2 113 (u32s s.list) := by rw [← HS.out]; exact hA2
  have c0 := Arr.cell32 hA2' 0 (by simp [ShaMath.St.list])
  have c1 := Arr.cell32 hA2' 1 (by simp [ShaMath.St.list])
  have c2 := Arr.cell32 hA2' 2 (by simp [ShaMath.St.list])
  have c3 := Arr.cell32 hA2' 3 (by simp [ShaMath.St.list])
  have c4 := Arr.cell32 hA2' 4 (by simp [ShaMath.St.list])
  have c5 := Arr.cell32 hA2' 5 (by simp [ShaMath.St.list])
  have c6 := Arr.cell32 hA2' 6 (by simp [ShaMath.St.list])
  have c7 := Arr.cell32 hA2' 7 (by simp [ShaMath.St.list])
  have HA2 : Hid _ := hA2'
  have HA3 : Hid _ := hA3
  have HA4 : Hid _ := hA4
  rw [show Value.pointer (some { block := w.heap.size, off := 0 }) = Value.pointer (some { block := g2, off := 0 }) by rw [hg2]]
  clear hg4 hg3 hg2 hA2 hA2' hA3 hA4 hsz1
  have e0 : s.list[0]?.getD 0 = s.a := rfl
  have e1 : s.list[1]?.getD 0 = s.b := rfl
  have e2 : s.list[2]?.getD 0 = s.c := rfl
  have e3 : s.list[3]?.getD 0 = s.d := rfl
  have e4 : s.list[4]?.getD 0 = s.e := rfl
  have e5 : s.list[5]?.getD 0 = s.f := rfl
  have e6 : s.list[6]?.getD 0 = s.g := rfl
  have e7 : s.list[7]?.getD 0 = s.h := rfl
  rw [e0] at c0; rw [e1] at c1; rw [e2] at c2; rw [e3] at c3; rw [e4] at c4; rw [e5] at c5; rw [e6] at c6; rw [e7] at c7
  clear e0 e1 e2 e3 e4 e5 e6 e7
  go_quiet (fail)
  go_wp2_with fail
  go_quiet (fail)
  clear c0 c1 c2 c3 c4 c5 c6 c7
  go_wp2_with (refine wpList_load_mid rfl 116 (.tmp 3) rfl g3 0 rfl Bv (.array 64 5) (range_of_arr HA3.out) Tryz.underlying116 rfl HI.out ?_)
  have HSC : Hid _ := schedule_any bs (w1.drewN (nq + nq)) HL.out hb
  refine Calls.mono (show Calls Tryz.prog 92 #[.agg Bv.toArray] (w1.drewN _) _ by rw [HB.out]; exact schedule_any bs _ HL.out hb) ?_
  rintro e w2 ⟨rfl, hB2⟩
  have hA2 : Arr w2 g2 113 (u32s s.list) := Arr.later (Arr.drewN HA2.out _) hB2 (Arr.lt HA2.out)
  have hA4 : Arr w2 g4 113 Z8 := Arr.later (Arr.drewN HA4.out _) hB2 (Arr.lt HA4.out)
  have hBw : Below w.heap.size w w2 := (Below.drewN hBl _).trans (hB2.mono (by show w.heap.size ≤ w1.heap.size; have := HSZ.out; omega))
  have hs2 : w1.heap.size ≤ w2.heap.size := hB2.size
  clear hB2 HA2 HA3 HA4 hBl HSC
  obtain ⟨g13, hg13⟩ : ∃ g, g = w2.heap.size := ⟨_, rfl⟩
  have G13 : Hid (g13 = w2.heap.size) := hg13
  have HS64 : Hid ((u32s (ShaMath.sched bs)).length = 64) := by show _ = _; rw [u32s_len, ShaMath.sched_len]
  have HZ64 : Hid (Z.length = 64) := by show _ = _; rw [HZ.out, u32s_len]; simp
  have HO : Hid _ := u32s_one (ShaMath.sched bs)
  obtain ⟨R, hR⟩ : ∃ R, R = u32s (ShaMath.sched bs) := ⟨_, rfl⟩
  rw [← hR] at HS64 HO ⊢
  have HR : Hid (R = u32s (ShaMath.sched bs)) := hR
  have HA2 : Hid _ := hA2
  have HA4 : Hid _ := hA4
  have HS2 : Hid _ := hs2
  clear hR hg13 hA2 hA4 hs2
  go_wp2_with (refine wpList_store_arr rfl 131 (.tmp 13) (.tmp 36) rfl w2.heap.size 131 Z R rfl rfl (Arr.new w2 131 Z rfl) (by rw [HS64.out]; exact size58) (by rw [HZ64.out, HS64.out]) HO.out ?_)
  have hA13 : Arr ((w2.alloc (Obj.cells Z.toArray 131)).setRow w2.heap.size R.toArray) g13 131 R := by rw [G13.out]; exact Arr.row (Arr.new w2 131 Z rfl)
  have hA2 : Arr ((w2.alloc (Obj.cells Z.toArray 131)).setRow w2.heap.size R.toArray) g2 113 (u32s s.list) := (Arr.alloc HA2.out _).row_other _ (by have := Arr.lt HA2.out; omega)
  have hA4 : Arr ((w2.alloc (Obj.cells Z.toArray 131)).setRow w2.heap.size R.toArray) g4 113 Z8 := (Arr.alloc HA4.out _).row_other _ (by have := Arr.lt HA4.out; omega)
  have hBl : Below w.heap.size w ((w2.alloc (Obj.cells Z.toArray 131)).setRow w2.heap.size R.toArray) := below_setRow (hBw.alloc hBw.size _) hBw.size _
  generalize ((w2.alloc (Obj.cells Z.toArray 131)).setRow w2.heap.size R.toArray) = w3 at *
  rw [← G13.out]
  go_loopw [5, 6, 7, 8, 9, 10, 11, 12, 37] (fun va vb vc vd ve vf vg vh i wr => ∃ k : Nat, k ≤ 64 ∧ i = .int .i64 k ∧ va = .int .u32 ((ShaMath.rounds k s ShaMath.keys (ShaMath.sched bs)).a : Nat) ∧ vb = .int .u32 ((ShaMath.rounds k s ShaMath.keys (ShaMath.sched bs)).b : Nat) ∧ vc = .int .u32 ((ShaMath.rounds k s ShaMath.keys (ShaMath.sched bs)).c : Nat) ∧ vd = .int .u32 ((ShaMath.rounds k s ShaMath.keys (ShaMath.sched bs)).d : Nat) ∧ ve = .int .u32 ((ShaMath.rounds k s ShaMath.keys (ShaMath.sched bs)).e : Nat) ∧ vf = .int .u32 ((ShaMath.rounds k s ShaMath.keys (ShaMath.sched bs)).f : Nat) ∧ vg = .int .u32 ((ShaMath.rounds k s ShaMath.keys (ShaMath.sched bs)).g : Nat) ∧ vh = .int .u32 ((ShaMath.rounds k s ShaMath.keys (ShaMath.sched bs)).h : Nat) ∧ Arr wr g13 131 R ∧ Arr wr g2 113 (u32s s.list) ∧ Arr wr g4 113 Z8 ∧ Below w.heap.size w wr) (fun _ _ _ _ _ _ _ _ i _ => 64 - (intOf i).toNat)
  case atStart => exact ⟨0, by omega, rfl, rfl, rfl, rfl, rfl, rfl, rfl, rfl, rfl, hA13, hA2, hA4, hBl⟩
  case round =>
    obtain ⟨k, hk, rfl, rfl, rfl, rfl, rfl, rfl, rfl, rfl, rfl, h13, h2, h4, hBw2⟩ := hrel
    clear hA13 hA2 hA4 hBl HA2 HA4
    have hSok := ShaMath.rounds_ok k s ShaMath.keys (ShaMath.sched bs) hs
    by_cases hlt : k < 64
    · have hsnoc := ShaMath.rounds_snoc k s ShaMath.keys (ShaMath.sched bs) (by rw [keys_len]; exact hlt) (by rw [ShaMath.sched_len]; exact hlt)
      have cK := (HT.out.later hBw2 HT.out.lt).shaK k hlt
      have h13' : Arr wr g13 131 (u32s (ShaMath.sched bs)) := by rw [← HR.out]; exact h13
      have cW := Arr.cell32 h13' k (by rw [ShaMath.sched_len]; exact hlt)
      have hkl := ShaMath.getD_lt keys_lt (by decide) k
      generalize ShaMath.keys[k]?.getD 0 = K at *
      generalize (ShaMath.sched bs)[k]?.getD 0 = X at *
      generalize ShaMath.rounds k s ShaMath.keys (ShaMath.sched bs) = S at *
      obtain ⟨sa, sb, sc, sd, se, sf, sg, sh⟩ := hSok
      have HSN : Hid _ := hsnoc
      have H13 : Hid _ := h13
      have H2 : Hid _ := h2
      have H4 : Hid _ := h4
      have hkI : (k : Int) < 64 := by omega
      have Q1 : Hid (∀ w, Calls Tryz.prog 93 #[.int .u32 (S.e : Int), .int .i64 6, .int .i64 11, .int .i64 25] w fun e w' => e = .returned (.int .u32 ((ShaMath.big1 S.e : Nat) : Int)) ∧ w' = w) := fun w => turned_any S.e 6 11 25 w se ⟨by decide, by decide⟩ ⟨by decide, by decide⟩ ⟨by decide, by decide⟩
      have Q2 : Hid (∀ w, Calls Tryz.prog 93 #[.int .u32 (S.a : Int), .int .i64 2, .int .i64 13, .int .i64 22] w fun e w' => e = .returned (.int .u32 ((ShaMath.big0 S.a : Nat) : Int)) ∧ w' = w) := fun w => turned_any S.a 2 13 22 w sa ⟨by decide, by decide⟩ ⟨by decide, by decide⟩ ⟨by decide, by decide⟩
      obtain ⟨x43, x46, x48, x50, x51, x52, x56, x60, x65, x68, x69, x72, x73, x74, x77, x83, ⟨e43, f43⟩, e46, ⟨e48, f48⟩, e50, e51, ⟨e52, f52⟩, ⟨e56, f56⟩, ⟨e60, f60⟩, e65, e68, e69, e72, e73, ⟨e74, f74⟩, ⟨e77, f77⟩, ⟨e83, f83⟩, hround, l60, l74⟩ := round_steps S K X ⟨sa, sb, sc, sd, se, sf, sg, sh⟩
      have HRD : Hid _ := HSN.out.trans hround
      generalize ShaMath.big1 S.e = B1 at *
      generalize ShaMath.big0 S.a = B0 at *
      have E8 : Hid _ := e65
      have E68 : Hid _ := e68
      have E69 : Hid _ := e69
      have E72 : Hid _ := e72
      have E73 : Hid _ := e73
      have E74 : Hid _ := e74
      have F74 : Hid _ := f74
      have E77 : Hid _ := e77
      have F77 : Hid _ := f77
      have E83 : Hid _ := e83
      have F83 : Hid _ := f83
      clear hround HSN h13 h13' h2 h4 hsnoc f43 f48 f52 f56 f60 e65 e68 e69 e72 e73 e74 f74 e77 f77 e83 f83
      go_wp2_with fail
      go_quiet (exact Calls.quiet_of_same (Q1.out _))
      clear cK cW e43 e46 e48 e50 e51 e52 e56 e60
      have e65 := E8.out
      have e68 := E68.out
      have e69 := E69.out
      have e72 := E72.out
      have e73 := E73.out
      have e74 := E74.out
      have f74 := F74.out
      have e77 := E77.out
      have f77 := F77.out
      have e83 := E83.out
      have f83 := F83.out
      go_wp2_with fail
      refine Calls.mono (Q2.out _) ?_
      rintro e wz ⟨rfl, rfl⟩
      go_wp2
      go_roundw
      case rel => exact ⟨k + 1, by omega, by go_num, by rw [HRD.out], by rw [HRD.out], by rw [HRD.out], by rw [HRD.out], by rw [HRD.out], by rw [HRD.out], by rw [HRD.out], by rw [HRD.out], Arr.drewN H13.out _, Arr.drewN H2.out _, Arr.drewN H4.out _, Below.drewN hBw2 _⟩
      case measure => simp [intOf]; omega
    · obtain rfl : k = 64 := by omega
      clear hlt h13
      obtain ⟨V, hV⟩ : ∃ V, V = ShaMath.rounds 64 s ShaMath.keys (ShaMath.sched bs) := ⟨_, rfl⟩
      rw [← hV] at hSok ⊢
      have HV : Hid (ShaMath.comp s bs = ShaMath.addS s V) := by show _ = _; rw [hV]; rfl
      have H2 : Hid _ := h2
      have H4 : Hid _ := h4
      clear hV h2 h4
      rw [show ((64 : Nat) : Int) = 64 from rfl]
      clear z47
      have z47 := Tryz.zeroValue113
      go_wp2
      clear z47
      go_loopw [97] (fun i wr => ∃ k : Nat, k ≤ 8 ∧ i = .int .i64 k ∧ Arr wr g2 113 (u32s (addAt s V k)) ∧ Arr wr g4 113 Z8 ∧ Below w.heap.size w wr) (fun i _ => 8 - (intOf i).toNat)
      case atStart => exact ⟨0, by omega, rfl, H2.out, H4.out, hBw2⟩
      case round =>
        clear H2 H4 hBw2
        obtain ⟨k, hk, rfl, h2, h4, hBw2⟩ := hrel
        by_cases hlt : k < 8
        · have hstep := addAt_step s V k hlt
          have hcell := Arr.cell32 h2 k (by rw [addAt_len s V k (by omega)]; exact hlt)
          rw [addAt_get s V k hlt] at hcell
          have hfz := h2.frozen k
          have hix : (Instr.index 113 (.agg #[.int .u32 (V.a : Int), .int .u32 (V.b : Int), .int .u32 (V.c : Int), .int .u32 (V.d : Int), .int .u32 (V.e : Int), .int .u32 (V.f : Int), .int .u32 (V.g : Int), .int .u32 (V.h : Int)]) (.int .i64 (k : Int))).run Tryz.prog wr = .ok (.int .u32 ((V.list[k]?.getD 0 : Nat) : Int)) wr :=
            run_index_row (P := Tryz.prog) (w := wr) 113 112 8 (u32s V.list) k _ Tryz.underlying113 size46 (Tryz.isAgg112 wr) hlt (by have : k < V.list.length := hlt; simp [u32s, this])
          obtain ⟨x, ex, fx, gx⟩ := addw (s.list[k]?.getD 0) (V.list[k]?.getD 0)
          rw [← gx] at hstep
          generalize s.list[k]?.getD 0 = p at *
          generalize V.list[k]?.getD 0 = q at *
          have HST : Hid _ := hstep
          have H2 : Hid _ := h2
          have H4 : Hid _ := h4
          have hkI : (k : Int) < 8 := by omega
          clear hstep h2 h4 gx
          go_wp2
          go_roundw
          case rel => exact ⟨k + 1, by omega, by go_num, by rw [HST.out, ← u32s_set]; exact Arr.set H2.out _ _, Arr.set_other H4.out _ (by simp; have := G4.out; have := G2.out; omega) _, hBw2.setCell (by simp; have := G2.out; omega) _⟩
          case measure => simp [intOf]; omega
        · obtain rfl : k = 8 := by omega
          rw [addAt_end] at h2
          have H2 : Hid _ := h2
          have H4 : Hid _ := h4
          clear h2 h4 hlt
          have HS8 : Hid ((u32s (ShaMath.addS s V).list).length = 8) := by show _ = _; rw [u32s_len]; rfl
          have HZ8l : Hid (Z8.length = 8) := by show _ = _; rw [HZ8.out, u32s_len]; simp
          have HO8 : Hid _ := u32s_one (ShaMath.addS s V).list
          obtain ⟨Y, hY⟩ : ∃ Y, Y = u32s (ShaMath.addS s V).list := ⟨_, rfl⟩
          rw [← hY] at HS8 HO8 H2
          have HY : Hid (Y = u32s (ShaMath.comp s bs).list) := by show _ = _; rw [hY, HV.out]
          clear hY
          go_wp2_with (first
            | (refine wpList_load_mid rfl 113 (.tmp 2) rfl g2 0 rfl Y (.array 8 112) (range_of_arr H2.out) Tryz.underlying113 rfl (by rw [HS8.out]; exact size47) ?_)
            | (refine wpList_store_arr rfl 113 (.tmp 4) (.tmp 108) rfl g4 113 Z8 Y rfl rfl H4.out (by rw [HS8.out]; exact size47) (by rw [HZ8l.out, HS8.out]) HO8.out ?_))
          (try simp only [Exit.inBlock, Exit.then])
          refine ret_arr g4 113 Y (.array 8 112) rfl rfl (Arr.row H4.out) Tryz.underlying113 rfl (by rw [HS8.out]; exact size47) rfl ⟨by rw [HY.out], below_setRow hBw2 (by have := G4.out; omega) _⟩

end Go.Proofs.YteockpllnhjooaaGreatDoor
namespace Go.Proofs.YteockpllnhjooaaGreatDoor
open Go.RowKit
set_option maxRecDepth 100000
set_option linter.unusedVariables false

/-- The document's own table. -/
def RefTab (w : World) : Prop := ∀ i, i < 64 → w.cell? ⟨1, i, none⟩ = some (.int .u32 ((ShaMath.keys[i]?.getD 0 : Nat) : Int))
/-- All listed variables. -/
def Tabs3 (w : World) : Prop := Tabs w ∧ RefTab w
theorem RefTab.later {w w' : World} {B : Nat} (h : RefTab w) (hb : Below B w w') (hB : 2 < B) : RefTab w' := fun i hi => by
  rw [hb.cell (by show 1 < B; omega)]; exact h i hi
end Go.Proofs.YteockpllnhjooaaGreatDoor

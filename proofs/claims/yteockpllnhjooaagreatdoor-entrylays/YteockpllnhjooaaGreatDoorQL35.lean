/-
  FnShaPad, FnShaWrite, FnShaSum.
-/
import Derived.Test.YteockpllnhjooaaGreatDoorQL05
import Derived.Test.YteockpllnhjooaaGreatDoorQL34
namespace Go.Proofs.YteockpllnhjooaaGreatDoor
open Go.RowKit NumMath
set_option maxRecDepth 100000
set_option linter.unusedVariables false
set_option linter.unusedSimpArgs false

/-- Natural numbers as the walk's. -/
def ints (l : List Nat) : List Int := l.map fun (x : Nat) => (x : Int)
theorem ints_len (l : List Nat) : (ints l).length = l.length := by simp [ints]
theorem ints_u8 (l : List Nat) : (ints l).map (Value.int .u8) = u8v l := by simp [ints, u8v]
theorem nats_ints (l : List Nat) : nats (ints l) = l := by
  unfold nats ints; rw [List.map_map]
  exact (List.map_congr_left (fun x _ => by simp)).trans (List.map_id _)
theorem ints_byte {l : List Nat} (h : ∀ c ∈ l, c < 256) : ∀ c ∈ ints l, 0 ≤ c ∧ c ≤ 255 := by
  intro c hc; obtain ⟨x, hx, rfl⟩ := List.mem_map.1 hc; have := h x hx; omega

def padT (n k : Nat) : List Nat := List.replicate (8 - k) 0 ++ (ShaMath.fix8 (8 * n)).drop (8 - k)
def padAt (n k : Nat) : List Nat := 128 :: (List.replicate (ShaMath.zerosOf n) 0 ++ padT n k)
theorem padT_step (n k : Nat) (h : k < 8) : padT n (k + 1) = (padT n k).set (7 - k) (8 * n / 256 ^ k % 256) := by
  match k, h with
  | 0, _ => simp [padT, ShaMath.fix8]
  | 1, _ => simp [padT, ShaMath.fix8]
  | 2, _ => simp [padT, ShaMath.fix8]
  | 3, _ => simp [padT, ShaMath.fix8]
  | 4, _ => simp [padT, ShaMath.fix8]
  | 5, _ => simp [padT, ShaMath.fix8]
  | 6, _ => simp [padT, ShaMath.fix8]
  | 7, _ => simp [padT, ShaMath.fix8]
theorem padT_len (n k : Nat) (h : k ≤ 8) : (padT n k).length = 8 := by simp [padT, ShaMath.fix8] <;> omega
theorem padAt_len (n k : Nat) (h : k ≤ 8) : (padAt n k).length = ShaMath.zerosOf n + 9 := by simp [padAt, padT_len n k h]
theorem padAt_step (n k : Nat) (h : k < 8) : padAt n (k + 1) = (padAt n k).set (ShaMath.zerosOf n + 8 - k) (8 * n / 256 ^ k % 256) := by
  unfold padAt
  rw [padT_step n k h, show ShaMath.zerosOf n + 8 - k = (ShaMath.zerosOf n + (7 - k)) + 1 by omega, List.set_cons_succ, List.set_append_right _ _ (by simp)]
  simp
theorem padAt_end (n : Nat) : padAt n 8 = ShaMath.pad n := by simp [padAt, padT, ShaMath.pad]
theorem padAt_zero (n : Nat) : padAt n 0 = 128 :: List.replicate (ShaMath.zerosOf n + 8) 0 := by
  unfold padAt padT
  rw [show (ShaMath.fix8 (8 * n)).drop (8 - 0) = [] from rfl, List.append_nil, List.replicate_append_replicate]
theorem fix8_lt (n : Nat) : ∀ c ∈ ShaMath.fix8 n, c < 256 := by
  intro c hc; simp [ShaMath.fix8] at hc; omega
theorem pad_lt (n : Nat) : ∀ c ∈ ShaMath.pad n, c < 256 := by
  intro c hc
  simp only [ShaMath.pad, List.mem_cons, List.mem_append, List.mem_replicate] at hc
  rcases hc with h | h | h
  · omega
  · omega
  · exact fix8_lt _ c h

theorem made0 (n : Nat) : (madeCells (Value.int .u8 0).cells (n * 1)).toList = u8v (List.replicate n 0) := by
  rw [Nat.mul_one, show (Value.int .u8 0).cells = #[.int .u8 0] from rfl, toList_madeCells_one]
  simp [u8v]
theorem own_arr {w : World} {base g n : Nat} {xs : List Value} (h : w.ownsRow base 5 1 (.slice (some ⟨g, 0, none⟩) n n) n xs) : Arr w g 5 xs := by
  rcases h.2 with ⟨h', _⟩ | ⟨g', cap', cur, h', _, hg, _, _, hcs, htake⟩
  · simp at h'
  · simp only [Value.slice.injEq, Option.some.injEq, Addr.mk.injEq, and_true, true_and] at h'
    obtain ⟨rfl, rfl⟩ := h'
    unfold Arr
    rw [hg, ← htake, List.take_of_length_le (by simp [hcs])]
theorem arr_row {w : World} {g t : Nat} {l : List Nat} (h : Arr w g t (u8v l)) : Row .u8 w (some ⟨g, 0, none⟩) (ints l) := by
  refine .inr ⟨g, 0, rfl, fun i hi => ?_⟩
  have hi' : i < l.length := by simpa [ints] using hi
  rw [Nat.zero_add, h.cell8 i hi']
  simp [ints, hi']

theorem padding_any (n : Nat) (w : World) (hn : n < 1152921504606846976) :
    Calls Tryz.prog 70 #[.int .u64 (n : Int)] w fun e w' => e = .returned (.slice (some ⟨w.heap.size, 0, none⟩) (ShaMath.pad n).length (ShaMath.pad n).length) ∧ Row .u8 w' (some ⟨w.heap.size, 0, none⟩) (ints (ShaMath.pad n)) ∧ Below w.heap.size w w' := by
  obtain ⟨i0, hi, hz0, hz1, hz2⟩ := info_parts Tryz.info5
  obtain ⟨z, hz⟩ : ∃ z : Nat, z = ShaMath.zerosOf n := ⟨_, rfl⟩
  have hzl : z < 64 := by rw [hz]; exact Nat.mod_lt _ (by decide)
  have hz' : (119 - (n : Int) % 64) % 64 = (z : Int) := by rw [hz]; unfold ShaMath.zerosOf; omega
  have HZ : Hid (z = ShaMath.zerosOf n) := hz
  clear hz
  go_enter Tryz.func70, Tryz.ntmps70
  go_wp2_with (at_make; refine wpList_make_full _ rfl _ _ 48 rfl w.heap.size 5 i0 (.int .u8 0) 1 Tryz.underlying48 hi hz0 hz1 _ _ _ _ (z + 9) rfl rfl (by omega) (by omega) (by rw [hz2]; omega) (by unfold maxLen; omega) (Nat.le_refl _) ?_; intro w0 hown0 hgrow0; rw [made0] at hown0; have hA0 := own_arr hown0; have hb0 : Below w.heap.size w w0 := (Below.refl _ _).grown hgrow0 (Nat.le_refl _) (fun k h => by cases h); have hc0 := hA0.cell8 0 (by simp); have hf0 := hA0.frozen 0; clear hown0 hgrow0)
  have hA1 := hA0.set 0 (.int .u8 128)
  rw [show (.int .u8 128 : Value) = .int .u8 ((128 : Nat) : Int) from rfl, u8v_set, show (List.replicate (z + 9) 0).set 0 128 = padAt n 0 by rw [padAt_zero, ← HZ.out, show z + 9 = (z + 8) + 1 from rfl, List.replicate_succ]; rfl] at hA1
  have hb1 : Below w.heap.size w (w0.setCell ⟨w.heap.size, 0, none⟩ (.int .u8 128)) := hb0.setCell (Nat.le_refl _) _
  clear hA0 hc0 hf0 hb0
  generalize w0.setCell ⟨w.heap.size, 0, none⟩ (.int .u8 128) = w1 at *
  go_loopw [16] (fun i wr => ∃ k : Nat, k ≤ 8 ∧ i = .int .i64 k ∧ Arr wr w.heap.size 5 (u8v (padAt n k)) ∧ Below w.heap.size w wr) (fun i _ => 8 - (intOf i).toNat)
  case atStart => exact ⟨0, by omega, rfl, hA1, hb1⟩
  case round =>
    obtain ⟨k, hk, rfl, hA, hBw⟩ := hrel
    clear hA1 hb1
    by_cases hlt : k < 8
    · have hstep := padAt_step n k hlt
      rw [← HZ.out] at hstep
      have hlen := padAt_len n k hk
      rw [← HZ.out] at hlen
      obtain ⟨q, hq1, hq⟩ : ∃ q : Nat, (z : Int) + 9 - 1 - (k : Int) = (q : Int) ∧ q = z + 8 - k := ⟨z + 8 - k, by omega, rfl⟩
      have hcell := hA.cell8 q (by omega)
      have hfz := hA.frozen q
      have h2 := two8 k
      obtain ⟨x, hx, gx⟩ : ∃ x : Nat, (8 * (n : Int)) / 256 ^ k % 256 = (x : Int) ∧ x = 8 * n / 256 ^ k % 256 := ⟨_, by simp, rfl⟩
      rw [← gx, ← hq] at hstep
      have HST : Hid _ := hstep
      have HA : Hid _ := hA
      have hql : q < z + 9 := by omega
      clear hstep hA gx hq hlen
      go_wp2
      go_roundw
      case rel => exact ⟨k + 1, by omega, by go_num, by rw [HST.out, ← u8v_set]; exact Arr.set HA.out _ _, hBw.setCell (Nat.le_refl _) _⟩
      case measure => simp [intOf]; omega
    · obtain rfl : k = 8 := by omega
      rw [padAt_end] at hA
      have HA : Hid _ := hA
      clear hA hlt
      go_wp2
      go_ret
      have hl : z + 9 = (ShaMath.pad n).length := by rw [ShaMath.pad_len, ← HZ.out]; omega
      exact ⟨by rw [← hl]; rfl, arr_row HA.out, hBw⟩

end Go.Proofs.YteockpllnhjooaaGreatDoor
namespace Go.Proofs.YteockpllnhjooaaGreatDoor
open Go.RowKit NumMath
set_option maxRecDepth 100000
set_option linter.unusedVariables false
set_option linter.unusedSimpArgs false
attribute [-simp] Tryz.isAgg131 Tryz.zeroValue131 Tryz.isAgg116 Tryz.zeroValue116 Tryz.isAgg113 Tryz.zeroValue113 Tryz.isAgg118 Tryz.isAgg117

/-- The cells of a digest under way. -/
def hashL (s : ShaMath.St) (blk : List Nat) (n : Nat) : List Value := u32s s.list ++ (u8v blk ++ [.int .u64 (n : Int)])
/-- Block g is a digest of m under way. -/
def HashAt (w : World) (g : Nat) (m : List Nat) : Prop :=
  ∃ blk : List Nat, blk.length = 64 ∧ (∀ c ∈ blk, c < 256) ∧ blk.take (m.length % 64) = ShaMath.tail m ∧ Arr w g 118 (hashL (ShaMath.state m) blk m.length)

theorem zero51 : (Tryz.prog.info? 118).map (fun i => (i.zero, i.size)) = some (some (.agg (hashL ⟨0, 0, 0, 0, 0, 0, 0, 0⟩ (List.replicate 64 0) 0).toArray), 73) := by kernel_rfl

theorem wpList_build_is {ops : Array Oper} {rest : List Oper} {o : Oper} {a : Act} {w : World} {Q : Exit → Act → World → Prop} (hg : o.guard = none) (t : TypeId) (parts : Array (Nat × Operand)) (ho : o.op = .build t parts)
    (vs : List (Nat × Value)) (hv : (parts.map fun (i, x) => (i, a.eval x)).toList = vs) (cells : Array Value) (hb : Tryz.prog.built t vs = some cells)
    (h : wpList Tryz.prog ops Q rest (a.put o.dst (.agg cells)) w) : wpList Tryz.prog ops Q (o :: rest) a w :=
  wpList_build hg t parts ho (by rw [hv, hb]; rfl) (by rw [hv, hb]; exact h)

theorem new_any (w : World) (ht : Tabs w) :
    Calls Tryz.prog 42 #[] w fun e w' => e = .returned (.pointer (some ⟨w.heap.size, 0, none⟩)) ∧ HashAt w' w.heap.size [] ∧ Below w.heap.size w w' := by
  obtain ⟨z51, i51⟩ := zero_of_info zero51
  go_enter Tryz.func42, Tryz.ntmps42
  have HB : Hid (Tryz.prog.built 118 [(0, .agg (u32s ShaMath.init.list).toArray)] = some (hashL ShaMath.init (List.replicate 64 0) 0).toArray) := by show _ = _; kernel_rfl
  have HR : Hid (w.rangeAt 0 0 (u32s ShaMath.init.list)) := by
    intro j v hv
    have hj : j < 8 := by have := (List.getElem?_eq_some_iff.1 hv).1; simpa [u32s, list8] using this
    rw [Nat.zero_add, ht.first j hj]
    have : j < ShaMath.init.list.length := hj
    simp [u32s, this] at hv ⊢
    exact hv
  have HI : Hid ((u32s ShaMath.init.list).length = 8) := rfl
  have HF : Hid (HashAt (w.alloc (.cells (hashL ShaMath.init (List.replicate 64 0) 0).toArray 118)) w.heap.size []) := ⟨List.replicate 64 0, by simp, by intro c hc; have := List.eq_of_mem_replicate hc; omega, rfl, Arr.new w 118 _ rfl⟩
  obtain ⟨I, hI⟩ : ∃ I, I = u32s ShaMath.init.list := ⟨_, rfl⟩
  obtain ⟨J, hJ⟩ : ∃ J, J = hashL ShaMath.init (List.replicate 64 0) 0 := ⟨_, rfl⟩
  rw [← hI] at HB HR HI
  rw [← hJ] at HB HF
  clear hI hJ z51 i51 ht
  go_wp2_with (first
    | (refine wpList_load_mid rfl 113 (.global 0) rfl 0 0 rfl I (.array 8 112) HR.out Tryz.underlying113 rfl (by rw [HI.out]; exact size47) ?_)
    | ((refine wpList_build_is rfl 118 #[(0, .tmp 1)] rfl [(0, .agg I.toArray)] (by simp [Act.eval, Act.put]) J.toArray HB.out ?_)))
  go_ret
  exact ⟨rfl, HF.out, (Below.refl _ _).alloc (Nat.le_refl _) _⟩

theorem hashL_len (s : ShaMath.St) (blk : List Nat) (n : Nat) (h : blk.length = 64) : (hashL s blk n).length = 73 := by simp [hashL, u32s_len, u8v_len, list8, h]
theorem hashL_size (s : ShaMath.St) (blk : List Nat) (n : Nat) (h : blk.length = 64) : (hashL s blk n)[72]? = some (.int .u64 (n : Int)) := by
  unfold hashL
  rw [List.getElem?_append_right (by rw [u32s_len]; exact Nat.le_of_lt (by decide : 8 < 72)), List.getElem?_append_right (by rw [u32s_len, u8v_len, h]; exact Nat.le_refl 64), u32s_len, u8v_len, h]
  rfl
theorem hashL_set (s : ShaMath.St) (blk : List Nat) (n m : Nat) (h : blk.length = 64) : (hashL s blk n).set 72 (.int .u64 (m : Int)) = hashL s blk m := by
  unfold hashL
  rw [List.set_append_right _ _ (by rw [u32s_len]; exact Nat.le_of_lt (by decide : 8 < 72)), List.set_append_right _ _ (by rw [u32s_len, u8v_len, h]; exact Nat.le_refl 64), u32s_len, u8v_len, h]
  rfl

theorem hashL_splice (s : ShaMath.St) (blk cs : List Nat) (n r : Nat) (h : blk.length = 64) (hr : r + cs.length ≤ 64) :
    (hashL s blk n).take (8 + r) ++ u8v cs ++ (hashL s blk n).drop (8 + r + (u8v cs).length) = hashL s (blk.take r ++ cs ++ blk.drop (r + cs.length)) n := by
  have h8 : (u32s s.list).length = 8 := by rw [u32s_len]; rfl
  unfold hashL
  rw [u8v_len, List.take_append, List.drop_append, h8, List.take_of_length_le (by omega), List.drop_eq_nil_of_le (by omega), show 8 + r - 8 = r by omega, show 8 + r + cs.length - 8 = r + cs.length by omega,
    List.take_append_of_le_length (by rw [u8v_len]; omega), List.drop_append_of_le_length (by rw [u8v_len]; omega)]
  simp [u8v, List.map_take, List.map_drop]
theorem hashL_words (s s' : ShaMath.St) (blk : List Nat) (n : Nat) : (hashL s blk n).take 0 ++ u32s s'.list ++ (hashL s blk n).drop (0 + (u32s s'.list).length) = hashL s' blk n := by
  have h8 : (u32s s.list).length = 8 := by rw [u32s_len]; rfl
  have h8' : (u32s s'.list).length = 8 := by rw [u32s_len]; rfl
  unfold hashL
  rw [h8', List.take_zero, List.nil_append, Nat.zero_add, List.drop_append, h8, List.drop_eq_nil_of_le (by omega)]
  simp
/-- Cells into a part of a block that is known whole. -/
theorem wp_store_seg {op : Oper} {a : Act} {w : World} {K : Act → World → Prop} {Q : Exit → Act → World → Prop} (ty : TypeId) (x y : Operand) (ho : op.op = .store ty x y)
    (g o t : Nat) (l cs : List Value) (hx : a.eval x = .pointer (some ⟨g, o, none⟩)) (hy : a.eval y = .agg cs.toArray) (h : Arr w g t l)
    (hi : (Tryz.prog.info? ty).map (·.size) = some cs.length) (hfit : o + cs.length ≤ l.length) (h1 : ∀ v ∈ cs, v.oneCell' = true)
    (hk : K (a.put op.dst undef) (w.setRow g (l.take o ++ cs ++ l.drop (o + cs.length)).toArray)) : op.wp Tryz.prog a w K Q := by
  have hst := run_storeCells_at Tryz.prog g o t cs 0 l.toArray w h (by simpa using hfit) h1
  have hsv : (storeVar ty ⟨g, o, none⟩ (.agg cs.toArray)).run Tryz.prog w = .ok () (w.setRow g (l.take o ++ cs ++ l.drop (o + cs.length)).toArray) := by
    cases hq : Tryz.prog.info? ty with
    | none => simp [hq] at hi
    | some i =>
      have hs : cs.length = i.size := by simp [hq] at hi; omega
      simp only [Nat.add_zero] at hst
      simp [storeVar, sizeOf, typeInfo, hq, Value.cells, hs, hst]
  unfold Oper.wp execOp
  simp only [ho, hx, hy, Instr.storeAt, Instr.sureAddr, Sem.run_bind, Sem.run_pure, Result.andThen_ok, hsv]
  exact hk
theorem gr_setRow {w w' : World} {g : Nat} (h : w.grownBy w' (some g)) (c : Array Value) : w.grownBy (w'.setRow g c) (some g) :=
  ⟨h.os, h.tape, h.output, by rw [setRow_size]; exact h.size, fun k hk hne => by rw [setRow_other w' g k c (by intro e; exact hne (by rw [e]))]; exact h.block k hk hne⟩
theorem gr_setCell {w w' : World} {g i : Nat} (h : w.grownBy w' (some g)) (v : Value) : w.grownBy (w'.setCell ⟨g, i, none⟩ v) (some g) :=
  ⟨h.os, h.tape, h.output, by simpa using h.size, fun k hk hne => by rw [heap_setCell_other w' _ k v (by intro e; exact hne (by rw [e]))]; exact h.block k hk hne⟩
theorem gr_drew {w w' : World} {row : Option Nat} (h : w.grownBy w' row) : w.grownBy w'.drew row := ⟨h.os, h.tape, h.output, h.size, h.block⟩
theorem gr_below {w w' w'' : World} {row : Option Nat} (h : w.grownBy w' row) (hb : Below w'.heap.size w' w'') : w.grownBy w'' row :=
  ⟨hb.os.trans h.os, hb.tape.trans h.tape, hb.output.trans h.output, Nat.le_trans h.size hb.size, fun k hk hne => by rw [hb.block k (Nat.lt_of_lt_of_le hk h.size)]; exact h.block k hk hne⟩
theorem Tabs.grown {w w' : World} {g : Nat} (h : Tabs w) (hg : w.grownBy w' (some g)) (h2 : 2 < g) : Tabs w' := by
  have hlt := h.lt
  have hb : ∀ k, k ≤ 2 → w'.heap[k]? = w.heap[k]? := fun k hk => hg.block k (by omega) (by intro e; injection e; omega)
  exact ⟨fun i hi => by rw [World.cell?_of_block (w := w) (hb 0 (by omega))]; exact h.first i hi, fun i hi => by rw [World.cell?_of_block (w := w) (hb 2 (by omega))]; exact h.shaK i hi⟩

theorem hash_words {w : World} {g n : Nat} {s : ShaMath.St} {blk : List Nat} (h : Arr w g 118 (hashL s blk n)) : w.rangeAt g 0 (u32s s.list) := by
  intro j v hv
  rw [Nat.zero_add, h.cell j]
  unfold hashL
  rw [List.getElem?_append_left (List.getElem?_eq_some_iff.1 hv).1]; exact hv
theorem hash_block {w : World} {g n : Nat} {s : ShaMath.St} {blk : List Nat} (h : Arr w g 118 (hashL s blk n)) (hl : blk.length = 64) : w.rangeAt g 8 (u8v blk) := by
  intro j v hv
  rw [h.cell (8 + j)]
  unfold hashL
  have h8 : (u32s s.list).length = 8 := by rw [u32s_len]; rfl
  rw [List.getElem?_append_right (by omega), h8, show 8 + j - 8 = j by omega, List.getElem?_append_left (List.getElem?_eq_some_iff.1 hv).1]; exact hv

set_option maxHeartbeats 4000000 in
theorem write_any (g : Nat) (m : List Nat) (a : Option Addr) (zs : List Int) (cap : Nat) (w : World) (ht : Tabs w) (hg : 2 < g) (hh : HashAt w g m) (hr : Row .u8 w a zs) (hsep : 0 < zs.length → ∀ ad, a = some ad → ad.block ≠ g) (hb : ∀ c ∈ zs, 0 ≤ c ∧ c ≤ 255) (hc : zs.length ≤ cap) (hcm : cap ≤ maxLen)
    (hn : m.length + zs.length < 1152921504606846976) :
    Calls Tryz.prog 43 #[.pointer (some ⟨g, 0, none⟩), .slice a zs.length cap] w fun e w' => e = .returned (.tuple #[]) ∧ HashAt w' g (m ++ nats zs) ∧ w.grownBy w' (some g) := by
  unfold maxLen at hcm
  obtain ⟨L, hL⟩ : ∃ L, L = zs.length := ⟨_, rfl⟩
  rw [← hL] at hc hn ⊢
  have HL : Hid (L = zs.length) := hL
  clear hL
  go_enter Tryz.func43, Tryz.ntmps43
  go_wp2_with fail
  go_loopw [1] (fun v wr => ∃ (j : Nat) (ao : Option Addr), j ≤ L ∧ v = .slice ao (L - j) (cap - j) ∧ Row .u8 w ao (zs.drop j) ∧ (j < L → ∀ ad, ao = some ad → ad.block ≠ g) ∧ HashAt wr g (m ++ (nats zs).take j) ∧ w.grownBy wr (some g)) (fun v _ => (match v with | .slice _ n _ => n | _ => 0))
  case atStart => exact ⟨0, a, by omega, rfl, hr, (fun h => hsep (by have := HL.out; omega)), by simpa using hh, World.grownBy.refl _ _⟩
  case round =>
    obtain ⟨j, ao, hj, rfl, hr1, hsep1, ⟨blk, hbl, hbb, hbt, hA⟩, hgr⟩ := hrel
    clear hr hsep hh
    by_cases hlt : j < L
    · obtain ⟨M, hM⟩ : ∃ M, M = m ++ (nats zs).take j := ⟨_, rfl⟩
      rw [← hM] at hbt hA
      have hnl : (nats zs).length = L := by rw [HL.out]; simp [nats]
      have hMl : M.length = m.length + j := by rw [hM]; simp [hnl]; omega
      obtain ⟨n0, hn0⟩ : ∃ n0, n0 = M.length := ⟨_, rfl⟩
      rw [← hn0] at hbt hA hMl
      obtain ⟨r, hr0⟩ : ∃ r, r = n0 % 64 := ⟨_, rfl⟩
      have hr64 : r < 64 := by omega
      have hrI : (n0 : Int) % 64 = (r : Int) := by omega
      rw [← hr0] at hbt
      obtain ⟨p, hp⟩ : ∃ p, p = L - j := ⟨_, rfl⟩
      obtain ⟨c', hc'⟩ : ∃ c', c' = cap - j := ⟨_, rfl⟩
      obtain ⟨n, hn'⟩ : ∃ n, n = Nat.min p (64 - r) := ⟨_, rfl⟩
      have hnp : n ≤ p ∧ n ≤ 64 - r ∧ 0 < n ∧ (n = p ∨ n = 64 - r) := by
        have e : n = min p (64 - r) := hn'
        omega
      rw [← hp, ← hc']
      have hzd : (zs.drop j).length = p := by rw [List.length_drop, ← HL.out, hp]
      obtain ⟨b0, off, hao, hcl⟩ : ∃ b off, ao = some ⟨b, off, none⟩ ∧ ∀ i, i < (zs.drop j).length → w.cell? ⟨b, off + i, none⟩ = some (.int .u8 ((zs.drop j).getD i 0)) := by
        rcases hr1 with h | h
        · rw [h] at hzd; simp at hzd; omega
        · exact h
      subst hao
      have hsb : b0 ≠ g := hsep1 hlt _ rfl
      obtain ⟨cs, hcs⟩ : ∃ cs, cs = ((nats zs).drop j).take n := ⟨_, rfl⟩
      have hcsl : cs.length = n := by rw [hcs]; simp [hnl]; omega
      have hbn : ∀ c ∈ nats zs, c < 256 := nats_byte hb
      have hcsb : ∀ c ∈ cs, c < 256 := by intro c hc; rw [hcs] at hc; exact hbn c (List.mem_of_mem_drop (List.mem_of_mem_take hc))
      obtain ⟨blk', hblk'⟩ : ∃ blk', blk' = blk.take r ++ cs ++ blk.drop (r + cs.length) := ⟨_, rfl⟩
      have hbl' : blk'.length = 64 := by rw [hblk']; simp [hbl, hcsl]; omega
      have hbb' : ∀ c ∈ blk', c < 256 := by
        intro c hc; rw [hblk'] at hc
        rcases List.mem_append.1 hc with h | h
        · rcases List.mem_append.1 h with h | h
          · exact hbb c (List.mem_of_mem_take h)
          · exact hcsb c h
        · exact hbb c (List.mem_of_mem_drop h)
      have hcopy : (Builtin.copy_ #[48, 48] 3 #[.slice (some ⟨g, 8 + r, none⟩) (64 - r) (64 - r), .slice (some ⟨b0, off, none⟩) p c']).run Tryz.prog wr.drew = .ok (goInt n) (wr.drew.setRow g (hashL (ShaMath.state M) blk' n0).toArray) := by
        have hrun := run_copy_row (P := Tryz.prog) wr.drew 48 48 3 5 g (8 + r) (64 - r) (64 - r) ⟨b0, off, none⟩ p c' _ 118 (u8v cs) Tryz.underlying48 size5 (Arr.drew hA) (by rw [u8v_len, hcsl]; exact hn') ?_ (by rw [u8v_len, hcsl]; simp [hashL_len _ _ _ hbl]; omega) (u8v_one _)
        · rw [hrun, u8v_len, hcsl]
          have hsp := hashL_splice (ShaMath.state M) blk cs n0 r hbl (by omega)
          rw [u8v_len, hcsl] at hsp
          rw [hblk', hcsl, ← hsp]
        · intro i v hv
          have hi : i < cs.length := by simpa [u8v] using (List.getElem?_eq_some_iff.1 hv).1
          show wr.cell? _ = _
          rw [Addr.add_mid]
          have hgw : wr.cell? ⟨b0, off + i, none⟩ = w.cell? ⟨b0, off + i, none⟩ := World.cell?_of_block (w := w) (hgr.block b0 (World.block_lt_of_cell? w _ (hcl i (by omega))) (by intro e; injection e with e; exact hsb e))
          rw [hgw, hcl i (by omega)]
          have hi2 : i < ((nats zs).drop j).length := by rw [List.length_drop, hnl]; omega
          have hi3 : j + i < zs.length := by rw [← HL.out]; omega
          have : cs[i] = (zs[j + i]).toNat := by simp [hcs, nats]
          simp [u8v, hi] at hv
          rw [← hv, this]
          have hz := hb _ (List.getElem_mem hi3)
          simp [hi3]
          omega
      have c72 : wr.drew.cell? ⟨g, 72, none⟩ = some (.int .u64 (n0 : Int)) := by
        show wr.cell? _ = _
        rw [hA.cell 72]; exact hashL_size _ _ _ hbl
      have hA5 : Arr (wr.drew.setRow g (hashL (ShaMath.state M) blk' n0).toArray) g 118 (hashL (ShaMath.state M) blk' n0) := Arr.row (Arr.drew hA)
      have hg5 : w.grownBy (wr.drew.setRow g (hashL (ShaMath.state M) blk' n0).toArray) (some g) := gr_setRow (gr_drew hgr) _
      have HST : Hid (m ++ (nats zs).take (j + n) = M ++ cs) := by show _ = _; rw [hM, hcs, List.append_assoc, ← List.take_add]
      have HBT : Hid (blk'.take r = ShaMath.tail M ∧ blk' = ShaMath.tail M ++ cs ++ blk.drop (r + cs.length)) := by
        refine ⟨?_, by rw [hblk', hbt]⟩
        rw [hblk', List.append_assoc, List.take_append_of_le_length (by simp [hbl]; omega), List.take_take, Nat.min_self, hbt]
      obtain ⟨hnp1, hnp2, hnp3, hnp4⟩ := hnp
      have HBL : Hid _ := hbl
      have HBL' : Hid _ := hbl'
      have HCL : Hid _ := hcsl
      have HN0 : Hid _ := hn0
      have HR0 : Hid _ := hr0
      have HMl : Hid _ := hMl
      have HP : Hid _ := hp
      have HC' : Hid _ := hc'
      have HR1 : Hid _ := hr1
      have HNP4 : Hid _ := hnp4
      have hrT : (n0 : Int).tmod 64 = (r : Int) := by rw [Int.tmod_eq_emod_of_nonneg (by omega)]; exact hrI
      have hrne : ¬ 64 = r := by omega
      have hrI64 : (r : Int) ≤ 64 := by omega
      have hpI : (0 : Int) < (p : Int) := by omega
      have hc1 : p ≤ c' := by omega
      clear hbl hbl' hcsl hn0 hr0 hMl hp hc' hr1 hsep1 hM hnl hzd hcl hcs hblk' hbt hA hn' hnp4
      go_wp2_with fail
      refine wp_region_held_drew (S := fun w' => w'.cell? ⟨g, 72, none⟩ = some (.int .u64 (n0 : Int))) rfl c72 (fun hS => ?_)
      refine wpAnyH_take (i := 0) (v := ?_) rfl (by kernel_rfl) (by kernel_rfl) (by kernel_rfl) (fun _ _ _ h => h) (Or.inl ⟨by rfl, ?_⟩) hS ?_
      rotate_left 1
      · intro w hSw; (try dsimp only at hSw); go_simp <;> with_reducible rfl
      try simp only [List.getElem_toArray, List.getElem_cons_zero, List.getElem_cons_succ, Act.put, List.setIfInBounds_toArray, List.set_cons_zero, List.set_cons_succ]
      refine wpAnyH_take (i := 1) (v := ?_) rfl (by kernel_rfl) (by kernel_rfl) (by kernel_rfl) (fun _ _ _ h => h) (Or.inl ⟨by rfl, ?_⟩) hS ?_
      rotate_left 1
      · intro w hSw; (try dsimp only at hSw); go_simp <;> with_reducible rfl
      try simp only [List.getElem_toArray, List.getElem_cons_zero, List.getElem_cons_succ, Act.put, List.setIfInBounds_toArray, List.set_cons_zero, List.set_cons_succ]
      refine wpAnyH_take (i := 2) (v := ?_) rfl (by kernel_rfl) (by kernel_rfl) (by kernel_rfl) (fun _ _ _ h => h) (Or.inl ⟨by rfl, ?_⟩) hS ?_
      rotate_left 1
      · intro w hSw; (try dsimp only at hSw); go_simp <;> with_reducible rfl
      try simp only [List.getElem_toArray, List.getElem_cons_zero, List.getElem_cons_succ, Act.put, List.setIfInBounds_toArray, List.set_cons_zero, List.set_cons_succ]
      refine wpAnyH_take (i := 3) (v := ?_) rfl (by kernel_rfl) (by kernel_rfl) (by kernel_rfl) (fun _ _ _ h => h) (Or.inl ⟨by rfl, ?_⟩) hS ?_
      rotate_left 1
      · intro w hSw; (try dsimp only at hSw); go_simp <;> with_reducible rfl
      try simp only [List.getElem_toArray, List.getElem_cons_zero, List.getElem_cons_succ, Act.put, List.setIfInBounds_toArray, List.set_cons_zero, List.set_cons_succ]
      refine wpAnyH_take (i := 4) (v := ?_) rfl (by kernel_rfl) (by kernel_rfl) (by kernel_rfl) (fun _ _ _ h => h) (Or.inl ⟨by rfl, ?_⟩) hS ?_
      rotate_left 1
      · intro w hSw; (try dsimp only at hSw); go_simp <;> with_reducible rfl
      try simp only [List.getElem_toArray, List.getElem_cons_zero, List.getElem_cons_succ, Act.put, List.setIfInBounds_toArray, List.set_cons_zero, List.set_cons_succ]
      refine wpAnyH_take (i := 5) (v := ?_) rfl (by kernel_rfl) (by kernel_rfl) (by kernel_rfl) (fun _ _ _ h => h) (Or.inl ⟨by rfl, ?_⟩) hS ?_
      rotate_left 1
      · intro w hSw; (try dsimp only at hSw); go_simp <;> with_reducible rfl
      try simp only [List.getElem_toArray, List.getElem_cons_zero, List.getElem_cons_succ, Act.put, List.setIfInBounds_toArray, List.set_cons_zero, List.set_cons_succ]
      refine wpAnyH_take (i := 6) (v := ?_) rfl (by kernel_rfl) (by kernel_rfl) (by kernel_rfl) (fun _ _ _ h => h) (Or.inl ⟨by rfl, ?_⟩) hS ?_
      rotate_left 1
      · intro w hSw; (try dsimp only at hSw); go_simp <;> with_reducible rfl
      try simp only [List.getElem_toArray, List.getElem_cons_zero, List.getElem_cons_succ, Act.put, List.setIfInBounds_toArray, List.set_cons_zero, List.set_cons_succ]
      refine wpAnyH_take (i := 7) (v := ?_) rfl (by kernel_rfl) (by kernel_rfl) (by kernel_rfl) (fun _ _ _ h => h) (Or.inl ⟨by rfl, ?_⟩) hS ?_
      rotate_left 1
      · intro w hSw; (try dsimp only at hSw); go_simp <;> with_reducible rfl
      try simp only [List.getElem_toArray, List.getElem_cons_zero, List.getElem_cons_succ, Act.put, List.setIfInBounds_toArray, List.set_cons_zero, List.set_cons_succ]
      refine wpAnyH_take (i := 8) (v := ?_) rfl (by kernel_rfl) (by kernel_rfl) (by kernel_rfl) (fun _ _ _ h => h) (Or.inl ⟨by rfl, ?_⟩) hS ?_
      rotate_left 1
      · intro w hSw; (try dsimp only at hSw); go_simp <;> with_reducible rfl
      try simp only [List.getElem_toArray, List.getElem_cons_zero, List.getElem_cons_succ, Act.put, List.setIfInBounds_toArray, List.set_cons_zero, List.set_cons_succ]
      refine wpAnyH_take (i := 9) (v := ?_) rfl (by kernel_rfl) (by kernel_rfl) (by kernel_rfl) (fun _ _ _ h => h) (Or.inl ⟨by rfl, ?_⟩) hS ?_
      rotate_left 1
      · intro w hSw; (try dsimp only at hSw); go_simp <;> with_reducible rfl
      try simp only [List.getElem_toArray, List.getElem_cons_zero, List.getElem_cons_succ, Act.put, List.setIfInBounds_toArray, List.set_cons_zero, List.set_cons_succ]
      refine wpAnyH_ready (rs := [10]) (by kernel_rfl) (by simp) ?_
      refine AllReadyH.cons rfl (fun K hK => ?_) AllReadyH.nil
      go_simp
      refine hK.out _ _ ?_ (fun hS => ?_)
      · rw [hA5.cell 72]; exact hashL_size _ _ _ HBL'.out
      clear hK K
      try simp only [List.getElem_toArray, List.getElem_cons_zero, List.getElem_cons_succ, Act.put, List.setIfInBounds_toArray, List.set_cons_zero, List.set_cons_succ]
      refine wpAnyH_take (i := 11) (v := ?_) rfl (by kernel_rfl) (by kernel_rfl) (by kernel_rfl) (fun _ _ _ h => h) (Or.inl ⟨by rfl, ?_⟩) hS ?_
      rotate_left 1
      · intro w hSw; (try dsimp only at hSw); go_simp <;> with_reducible rfl
      try simp only [List.getElem_toArray, List.getElem_cons_zero, List.getElem_cons_succ, Act.put, List.setIfInBounds_toArray, List.set_cons_zero, List.set_cons_succ]
      refine wpAnyH_done (by kernel_rfl) ?_ _
      clear hcopy c72
      have f72 := hA5.frozen 72
      generalize (wr.drew.setRow g (hashL (ShaMath.state M) blk' n0).toArray) = w5 at *
      obtain ⟨n1, hn1, hn1'⟩ : ∃ n1 : Nat, (n0 : Int) + (n : Int) = (n1 : Int) ∧ n1 = n0 + n := ⟨n0 + n, by omega, rfl⟩
      have hn1l : n1 < 1152921504606846976 := by have := HMl.out; have := HP.out; omega
      have HA6 : Hid (Arr (w5.setCell ⟨g, 72, none⟩ (.int .u64 (n1 : Int))) g 118 (hashL (ShaMath.state M) blk' n1)) := by
        have := hA5.set 72 (.int .u64 (n1 : Int))
        rw [hashL_set _ _ _ _ HBL'.out] at this
        exact this
      have HG6 : Hid (w.grownBy (w5.setCell ⟨g, 72, none⟩ (.int .u64 (n1 : Int))) (some g)) := gr_setCell hg5 _
      have hRow : ∀ ao' : Option Addr, (¬ c' = n → ao' = some ⟨b0, off + n, none⟩) → Row .u8 w ao' (zs.drop (j + n)) := by
        intro ao' hao'
        have h1 : Row .u8 w (some ⟨b0, off, none⟩) ((zs.drop j).take n ++ zs.drop (j + n)) := by
          rw [← List.drop_drop, List.take_append_drop]; exact HR1.out
        have hlz := HL.out
        have hpz := HP.out
        refine Row.rest h1 (m := n) (c := c') ?_ ?_ hao'
        · rw [List.length_take, List.length_drop]; omega
        · rw [← List.drop_drop, List.take_append_drop, List.length_drop]; omega
      have HRW : Hid _ := hRow
      have HN1 : Hid _ := hn1'
      have hnI : (n : Int) ≤ (p : Int) := by omega
      have hnI0 : (0 : Int) ≤ (n : Int) := by omega
      have hcI : (n : Int) ≤ (c' : Int) := by omega
      clear hRow hA5 hg5 hgr hn1'
      by_cases hfull : n = 64 - r
      · have hmod : (n1 : Int) % 64 = 0 := by have := HN1.out; omega
        have hmodT : (n1 : Int).tmod 64 = 0 := by rw [Int.tmod_eq_emod_of_nonneg (by omega)]; exact hmod
        have hf1 : 64 - r ≤ n := by omega
        clear hfull
        by_cases hcap : c' = n
        · have HCAP : Hid _ := hcap
          go_wp2_with fail
          generalize HW6 : w5.setCell ⟨g, 72, none⟩ (.int .u64 (n1 : Int)) = w6 at *
          have HW6' : Hid _ := HW6
          clear HW6 f72 hS
          refine wp_region_held_drew (S := fun w' => w'.rangeAt g 8 (u8v blk')) rfl (hash_block (Arr.drew HA6.out) HBL'.out) (fun hS => ?_)
          refine wpAnyH_take (i := 0) (v := ?_) rfl (by kernel_rfl) (by kernel_rfl) (by kernel_rfl) (fun _ _ _ h => h) (Or.inl ⟨by rfl, ?_⟩) hS ?_
          rotate_left 1
          · intro w hSw; (try dsimp only at hSw); go_simp <;> with_reducible rfl
          try simp only [List.getElem_toArray, List.getElem_cons_zero, List.getElem_cons_succ, Act.put, List.setIfInBounds_toArray, List.set_cons_zero, List.set_cons_succ]
          refine wpAnyH_take (i := 1) (v := ?_) rfl (by kernel_rfl) (by kernel_rfl) (by kernel_rfl) (fun _ _ _ h => h) (Or.inl ⟨by rfl, ?_⟩) hS ?_
          rotate_left 1
          · intro w hSw; (try dsimp only at hSw); go_simp <;> with_reducible rfl
          try simp only [List.getElem_toArray, List.getElem_cons_zero, List.getElem_cons_succ, Act.put, List.setIfInBounds_toArray, List.set_cons_zero, List.set_cons_succ]
          refine wpAnyH_take (i := 2) (v := ?_) rfl (by kernel_rfl) (by kernel_rfl) (by kernel_rfl) (fun _ _ _ h => h) (Or.inl ⟨by rfl, ?_⟩) hS ?_
          rotate_left 1
          · intro w hSw; (try dsimp only at hSw); go_simp <;> with_reducible rfl
          try simp only [List.getElem_toArray, List.getElem_cons_zero, List.getElem_cons_succ, Act.put, List.setIfInBounds_toArray, List.set_cons_zero, List.set_cons_succ]
          refine wpAnyH_take (i := 3) (v := ?_) rfl (by kernel_rfl) (by kernel_rfl) (by kernel_rfl) (fun _ _ _ h => h) (Or.inl ⟨by rfl, ?_⟩) hS ?_
          rotate_left 1
          · intro w hSw; (try dsimp only at hSw); go_simp <;> with_reducible rfl
          try simp only [List.getElem_toArray, List.getElem_cons_zero, List.getElem_cons_succ, Act.put, List.setIfInBounds_toArray, List.set_cons_zero, List.set_cons_succ]
          refine wpAnyH_take (i := 5) (v := ?_) rfl (by kernel_rfl) (by kernel_rfl) (by kernel_rfl) (fun _ _ _ h => h) (Or.inl ⟨by rfl, ?_⟩) hS ?_
          rotate_left 1
          · intro w hSw; (try dsimp only at hSw); go_simp <;> with_reducible rfl
          try simp only [List.getElem_toArray, List.getElem_cons_zero, List.getElem_cons_succ, Act.put, List.setIfInBounds_toArray, List.set_cons_zero, List.set_cons_succ]
          refine wpAnyH_take (i := 6) (v := ?_) rfl (by kernel_rfl) (by kernel_rfl) (by kernel_rfl) (fun _ _ _ h => h) (Or.inl ⟨by rfl, ?_⟩) hS ?_
          rotate_left 1
          · intro w hSw; (try dsimp only at hSw); go_simp <;> with_reducible rfl
          try simp only [List.getElem_toArray, List.getElem_cons_zero, List.getElem_cons_succ, Act.put, List.setIfInBounds_toArray, List.set_cons_zero, List.set_cons_succ]
          refine wpAnyH_take (i := 7) (v := ?_) rfl (by kernel_rfl) (by kernel_rfl) (by kernel_rfl) (fun _ _ _ h => h) (Or.inl ⟨by rfl, ?_⟩) hS ?_
          rotate_left 1
          · intro w hSw; (try dsimp only at hSw); go_simp <;> with_reducible rfl
          try simp only [List.getElem_toArray, List.getElem_cons_zero, List.getElem_cons_succ, Act.put, List.setIfInBounds_toArray, List.set_cons_zero, List.set_cons_succ]
          refine wpAnyH_take (i := 8) (v := _) rfl (by kernel_rfl) (by kernel_rfl) (by kernel_rfl) (fun _ _ _ h => h) (yieldsIf_load_mid (by rfl) 116 (.tmp 44) rfl g 8 rfl (u8v blk') (.array 64 5) (fun _ h => h) Tryz.underlying116 rfl (by rw [u8v_len, HBL'.out]; exact size49)) hS ?_
          try simp only [List.getElem_toArray, List.getElem_cons_zero, List.getElem_cons_succ, Act.put, List.setIfInBounds_toArray, List.set_cons_zero, List.set_cons_succ]
          refine wpAnyH_ready (rs := [4]) (by kernel_rfl) (by simp) ?_
          refine AllReadyH.cons rfl (fun K hK => ?_) AllReadyH.nil
          rw [if_pos (by rfl)]
          refine wp_load_mid 113 (.tmp 40) rfl g 0 rfl (u32s (ShaMath.state M).list) (.array 8 112) (hash_words (Arr.drew HA6.out)) Tryz.underlying113 rfl (by rw [u32s_len]; exact size47) ?_
          refine hK.out _ _ hS (fun hS => ?_)
          clear hK K
          try simp only [List.getElem_toArray, List.getElem_cons_zero, List.getElem_cons_succ, Act.put, List.setIfInBounds_toArray, List.set_cons_zero, List.set_cons_succ]
          refine wpAnyH_ready (rs := [9]) (by kernel_rfl) (by simp) ?_
          refine AllReadyH.cons rfl (fun K hK => ?_) AllReadyH.nil
          go_simp
          refine Calls.mono (stirred_any (ShaMath.state M) blk' w6.drew (Tabs.grown ht (gr_drew HG6.out) hg) (ShaMath.state_ok M) HBL'.out hbb') ?_
          rintro e w7 ⟨rfl, hB7⟩
          have HA7 : Hid (Arr w7 g 118 (hashL (ShaMath.state M) blk' n1)) := Arr.later (Arr.drew HA6.out) hB7 (Arr.lt (Arr.drew HA6.out))
          have HG7 : Hid (w.grownBy w7 (some g)) := gr_below (gr_drew HG6.out) hB7
          refine hK.out _ _ (hash_block HA7.out HBL'.out) (fun hS => ?_)
          clear hK K hB7
          try simp only [List.getElem_toArray, List.getElem_cons_zero, List.getElem_cons_succ, Act.put, List.setIfInBounds_toArray, List.set_cons_zero, List.set_cons_succ]
          refine wpAnyH_take (i := 10) (v := ?_) rfl (by kernel_rfl) (by kernel_rfl) (by kernel_rfl) (fun _ _ _ h => h) (Or.inl ⟨by rfl, ?_⟩) hS ?_
          rotate_left 1
          · intro w hSw; (try dsimp only at hSw); go_simp <;> with_reducible rfl
          try simp only [List.getElem_toArray, List.getElem_cons_zero, List.getElem_cons_succ, Act.put, List.setIfInBounds_toArray, List.set_cons_zero, List.set_cons_succ]
          refine wpAnyH_take (i := 11) (v := ?_) rfl (by kernel_rfl) (by kernel_rfl) (by kernel_rfl) (fun _ _ _ h => h) (Or.inl ⟨by rfl, ?_⟩) hS ?_
          rotate_left 1
          · intro w hSw; (try dsimp only at hSw); go_simp <;> with_reducible rfl
          try simp only [List.getElem_toArray, List.getElem_cons_zero, List.getElem_cons_succ, Act.put, List.setIfInBounds_toArray, List.set_cons_zero, List.set_cons_succ]
          refine wpAnyH_ready (rs := [12]) (by kernel_rfl) (by simp) ?_
          refine AllReadyH.cons rfl (fun K hK => ?_) AllReadyH.nil
          rw [if_pos (by rfl)]
          have HA8 : Hid (Arr (w7.setRow g (hashL (ShaMath.comp (ShaMath.state M) blk') blk' n1).toArray) g 118 (hashL (ShaMath.comp (ShaMath.state M) blk') blk' n1)) := Arr.row HA7.out
          have HG8 : Hid (w.grownBy (w7.setRow g (hashL (ShaMath.comp (ShaMath.state M) blk') blk' n1).toArray) (some g)) := gr_setRow HG7.out _
          refine wp_store_seg 113 (.tmp 48) (.tmp 46) rfl g 0 118 _ (u32s (ShaMath.comp (ShaMath.state M) blk').list) rfl rfl HA7.out (by rw [u32s_len]; exact size47) (by rw [u32s_len, hashL_len _ _ _ HBL'.out]; exact Nat.le_of_lt (by decide : 0 + 8 < 73)) (u32s_one _) ?_
          rw [hashL_words]
          refine hK.out _ _ (hash_block HA8.out HBL'.out) (fun hS => ?_)
          clear hK K hS
          try simp only [List.getElem_toArray, List.getElem_cons_zero, List.getElem_cons_succ, Act.put, List.setIfInBounds_toArray, List.set_cons_zero, List.set_cons_succ]
          refine wpAnyH_done (by kernel_rfl) ?_ _
          have HB8 : Hid (ShaMath.state (M ++ cs) = ShaMath.comp (ShaMath.state M) blk' ∧ ShaMath.tail (M ++ cs) = []) := by
            have hcl := HCL.out
            have := ShaMath.state_full M cs (by rw [← HN0.out, ← HR0.out]; omega)
            rw [HBT.out.2, List.drop_eq_nil_of_le (by rw [HBL.out]; omega), List.append_nil]
            exact this
          generalize (w7.setRow g (hashL (ShaMath.comp (ShaMath.state M) blk') blk' n1).toArray) = w8 at *
          go_wp2
          go_roundw
          case rel =>
            have hLn := HP.out
            have hC := HC'.out
            refine ⟨j + n, some ⟨b0, off, none⟩, by omega, ?_, HRW.out _ (fun h => absurd HCAP.out h), (fun _ ad h => by injection h with h; rw [← h]; exact hsb), ?_, HG8.out⟩
            · rw [show L - (j + n) = p - n by omega, show cap - (j + n) = c' - n by omega]; rw [show c' - n = 0 by have := HCAP.out; omega]
            · rw [HST.out]
              refine ⟨blk', HBL'.out, hbb', ?_, ?_⟩
              · rw [HB8.out.2, List.length_append, ← HN0.out, HCL.out, show (n0 + n) % 64 = 0 by have := HR0.out; omega]; rfl
              · rw [HB8.out.1, List.length_append, ← HN0.out, HCL.out, ← HN1.out]; exact HA8.out
          case measure => show p - n < p; omega
        · have HCAP : Hid _ := hcap
          go_wp2_with fail
          generalize HW6 : w5.setCell ⟨g, 72, none⟩ (.int .u64 (n1 : Int)) = w6 at *
          have HW6' : Hid _ := HW6
          clear HW6 f72 hS
          refine wp_region_held_drew (S := fun w' => w'.rangeAt g 8 (u8v blk')) rfl (hash_block (Arr.drew HA6.out) HBL'.out) (fun hS => ?_)
          refine wpAnyH_take (i := 0) (v := ?_) rfl (by kernel_rfl) (by kernel_rfl) (by kernel_rfl) (fun _ _ _ h => h) (Or.inl ⟨by rfl, ?_⟩) hS ?_
          rotate_left 1
          · intro w hSw; (try dsimp only at hSw); go_simp <;> with_reducible rfl
          try simp only [List.getElem_toArray, List.getElem_cons_zero, List.getElem_cons_succ, Act.put, List.setIfInBounds_toArray, List.set_cons_zero, List.set_cons_succ]
          refine wpAnyH_take (i := 1) (v := ?_) rfl (by kernel_rfl) (by kernel_rfl) (by kernel_rfl) (fun _ _ _ h => h) (Or.inl ⟨by rfl, ?_⟩) hS ?_
          rotate_left 1
          · intro w hSw; (try dsimp only at hSw); go_simp <;> with_reducible rfl
          try simp only [List.getElem_toArray, List.getElem_cons_zero, List.getElem_cons_succ, Act.put, List.setIfInBounds_toArray, List.set_cons_zero, List.set_cons_succ]
          refine wpAnyH_take (i := 2) (v := ?_) rfl (by kernel_rfl) (by kernel_rfl) (by kernel_rfl) (fun _ _ _ h => h) (Or.inl ⟨by rfl, ?_⟩) hS ?_
          rotate_left 1
          · intro w hSw; (try dsimp only at hSw); go_simp <;> with_reducible rfl
          try simp only [List.getElem_toArray, List.getElem_cons_zero, List.getElem_cons_succ, Act.put, List.setIfInBounds_toArray, List.set_cons_zero, List.set_cons_succ]
          refine wpAnyH_take (i := 3) (v := ?_) rfl (by kernel_rfl) (by kernel_rfl) (by kernel_rfl) (fun _ _ _ h => h) (Or.inl ⟨by rfl, ?_⟩) hS ?_
          rotate_left 1
          · intro w hSw; (try dsimp only at hSw); go_simp <;> with_reducible rfl
          try simp only [List.getElem_toArray, List.getElem_cons_zero, List.getElem_cons_succ, Act.put, List.setIfInBounds_toArray, List.set_cons_zero, List.set_cons_succ]
          refine wpAnyH_take (i := 5) (v := ?_) rfl (by kernel_rfl) (by kernel_rfl) (by kernel_rfl) (fun _ _ _ h => h) (Or.inl ⟨by rfl, ?_⟩) hS ?_
          rotate_left 1
          · intro w hSw; (try dsimp only at hSw); go_simp <;> with_reducible rfl
          try simp only [List.getElem_toArray, List.getElem_cons_zero, List.getElem_cons_succ, Act.put, List.setIfInBounds_toArray, List.set_cons_zero, List.set_cons_succ]
          refine wpAnyH_take (i := 6) (v := ?_) rfl (by kernel_rfl) (by kernel_rfl) (by kernel_rfl) (fun _ _ _ h => h) (Or.inl ⟨by rfl, ?_⟩) hS ?_
          rotate_left 1
          · intro w hSw; (try dsimp only at hSw); go_simp <;> with_reducible rfl
          try simp only [List.getElem_toArray, List.getElem_cons_zero, List.getElem_cons_succ, Act.put, List.setIfInBounds_toArray, List.set_cons_zero, List.set_cons_succ]
          refine wpAnyH_take (i := 7) (v := ?_) rfl (by kernel_rfl) (by kernel_rfl) (by kernel_rfl) (fun _ _ _ h => h) (Or.inl ⟨by rfl, ?_⟩) hS ?_
          rotate_left 1
          · intro w hSw; (try dsimp only at hSw); go_simp <;> with_reducible rfl
          try simp only [List.getElem_toArray, List.getElem_cons_zero, List.getElem_cons_succ, Act.put, List.setIfInBounds_toArray, List.set_cons_zero, List.set_cons_succ]
          refine wpAnyH_take (i := 8) (v := _) rfl (by kernel_rfl) (by kernel_rfl) (by kernel_rfl) (fun _ _ _ h => h) (yieldsIf_load_mid (by rfl) 116 (.tmp 44) rfl g 8 rfl (u8v blk') (.array 64 5) (fun _ h => h) Tryz.underlying116 rfl (by rw [u8v_len, HBL'.out]; exact size49)) hS ?_
          try simp only [List.getElem_toArray, List.getElem_cons_zero, List.getElem_cons_succ, Act.put, List.setIfInBounds_toArray, List.set_cons_zero, List.set_cons_succ]
          refine wpAnyH_ready (rs := [4]) (by kernel_rfl) (by simp) ?_
          refine AllReadyH.cons rfl (fun K hK => ?_) AllReadyH.nil
          rw [if_pos (by rfl)]
          refine wp_load_mid 113 (.tmp 40) rfl g 0 rfl (u32s (ShaMath.state M).list) (.array 8 112) (hash_words (Arr.drew HA6.out)) Tryz.underlying113 rfl (by rw [u32s_len]; exact size47) ?_
          refine hK.out _ _ hS (fun hS => ?_)
          clear hK K
          try simp only [List.getElem_toArray, List.getElem_cons_zero, List.getElem_cons_succ, Act.put, List.setIfInBounds_toArray, List.set_cons_zero, List.set_cons_succ]
          refine wpAnyH_ready (rs := [9]) (by kernel_rfl) (by simp) ?_
          refine AllReadyH.cons rfl (fun K hK => ?_) AllReadyH.nil
          go_simp
          refine Calls.mono (stirred_any (ShaMath.state M) blk' w6.drew (Tabs.grown ht (gr_drew HG6.out) hg) (ShaMath.state_ok M) HBL'.out hbb') ?_
          rintro e w7 ⟨rfl, hB7⟩
          have HA7 : Hid (Arr w7 g 118 (hashL (ShaMath.state M) blk' n1)) := Arr.later (Arr.drew HA6.out) hB7 (Arr.lt (Arr.drew HA6.out))
          have HG7 : Hid (w.grownBy w7 (some g)) := gr_below (gr_drew HG6.out) hB7
          refine hK.out _ _ (hash_block HA7.out HBL'.out) (fun hS => ?_)
          clear hK K hB7
          try simp only [List.getElem_toArray, List.getElem_cons_zero, List.getElem_cons_succ, Act.put, List.setIfInBounds_toArray, List.set_cons_zero, List.set_cons_succ]
          refine wpAnyH_take (i := 10) (v := ?_) rfl (by kernel_rfl) (by kernel_rfl) (by kernel_rfl) (fun _ _ _ h => h) (Or.inl ⟨by rfl, ?_⟩) hS ?_
          rotate_left 1
          · intro w hSw; (try dsimp only at hSw); go_simp <;> with_reducible rfl
          try simp only [List.getElem_toArray, List.getElem_cons_zero, List.getElem_cons_succ, Act.put, List.setIfInBounds_toArray, List.set_cons_zero, List.set_cons_succ]
          refine wpAnyH_take (i := 11) (v := ?_) rfl (by kernel_rfl) (by kernel_rfl) (by kernel_rfl) (fun _ _ _ h => h) (Or.inl ⟨by rfl, ?_⟩) hS ?_
          rotate_left 1
          · intro w hSw; (try dsimp only at hSw); go_simp <;> with_reducible rfl
          try simp only [List.getElem_toArray, List.getElem_cons_zero, List.getElem_cons_succ, Act.put, List.setIfInBounds_toArray, List.set_cons_zero, List.set_cons_succ]
          refine wpAnyH_ready (rs := [12]) (by kernel_rfl) (by simp) ?_
          refine AllReadyH.cons rfl (fun K hK => ?_) AllReadyH.nil
          rw [if_pos (by rfl)]
          have HA8 : Hid (Arr (w7.setRow g (hashL (ShaMath.comp (ShaMath.state M) blk') blk' n1).toArray) g 118 (hashL (ShaMath.comp (ShaMath.state M) blk') blk' n1)) := Arr.row HA7.out
          have HG8 : Hid (w.grownBy (w7.setRow g (hashL (ShaMath.comp (ShaMath.state M) blk') blk' n1).toArray) (some g)) := gr_setRow HG7.out _
          refine wp_store_seg 113 (.tmp 48) (.tmp 46) rfl g 0 118 _ (u32s (ShaMath.comp (ShaMath.state M) blk').list) rfl rfl HA7.out (by rw [u32s_len]; exact size47) (by rw [u32s_len, hashL_len _ _ _ HBL'.out]; exact Nat.le_of_lt (by decide : 0 + 8 < 73)) (u32s_one _) ?_
          rw [hashL_words]
          refine hK.out _ _ (hash_block HA8.out HBL'.out) (fun hS => ?_)
          clear hK K hS
          try simp only [List.getElem_toArray, List.getElem_cons_zero, List.getElem_cons_succ, Act.put, List.setIfInBounds_toArray, List.set_cons_zero, List.set_cons_succ]
          refine wpAnyH_done (by kernel_rfl) ?_ _
          have HB8 : Hid (ShaMath.state (M ++ cs) = ShaMath.comp (ShaMath.state M) blk' ∧ ShaMath.tail (M ++ cs) = []) := by
            have hcl := HCL.out
            have := ShaMath.state_full M cs (by rw [← HN0.out, ← HR0.out]; omega)
            rw [HBT.out.2, List.drop_eq_nil_of_le (by rw [HBL.out]; omega), List.append_nil]
            exact this
          generalize (w7.setRow g (hashL (ShaMath.comp (ShaMath.state M) blk') blk' n1).toArray) = w8 at *
          go_wp2
          go_roundw
          case rel =>
            have hLn := HP.out
            have hC := HC'.out
            refine ⟨j + n, some ⟨b0, off + n, none⟩, by omega, ?_, HRW.out _ (fun _ => rfl), (fun _ ad h => by injection h with h; rw [← h]; exact hsb), ?_, HG8.out⟩
            · rw [show L - (j + n) = p - n by omega, show cap - (j + n) = c' - n by omega]
            · rw [HST.out]
              refine ⟨blk', HBL'.out, hbb', ?_, ?_⟩
              · rw [HB8.out.2, List.length_append, ← HN0.out, HCL.out, show (n0 + n) % 64 = 0 by have := HR0.out; omega]; rfl
              · rw [HB8.out.1, List.length_append, ← HN0.out, HCL.out, ← HN1.out]; exact HA8.out
          case measure => show p - n < p; omega
      · have hmod : (n1 : Int) % 64 = ((r + n : Nat) : Int) := by have := HN1.out; have := HR0.out; omega
        have hmodT : (n1 : Int).tmod 64 = ((r + n : Nat) : Int) := by rw [Int.tmod_eq_emod_of_nonneg (by omega)]; exact hmod
        have hne : (((r + n : Nat) : Int) == 0) = false := by simp; omega
        have hf1 : n < 64 - r := by omega
        clear hfull
        by_cases hcap : c' = n
        · have HCAP : Hid _ := hcap
          go_wp2
          go_roundw
          case rel =>
            have hLn := HP.out
            have hC := HC'.out
            have hcl := HCL.out
            have hn0 := HN0.out
            have hr0 := HR0.out
            have hss := ShaMath.state_stay M cs (by rw [← hn0, ← hr0]; omega)
            refine ⟨j + n, some ⟨b0, off, none⟩, by omega, ?_, HRW.out _ (fun h => absurd HCAP.out h), (fun _ ad h => by injection h with h; rw [← h]; exact hsb), ?_, HG6.out⟩
            · rw [show L - (j + n) = p - n by omega, show cap - (j + n) = c' - n by omega]; rw [show c' - n = 0 by have := HCAP.out; omega]
            · rw [HST.out]
              have hml : (M ++ cs).length = n1 := by rw [List.length_append, ← hn0, hcl, ← HN1.out]
              refine ⟨blk', HBL'.out, hbb', ?_, ?_⟩
              · rw [hml, hss.2, show n1 % 64 = r + n by have := HN1.out; omega, HBT.out.2, List.take_append_of_le_length (by rw [List.length_append, ShaMath.tail_len, ← hn0, ← hr0, hcl]; omega), List.take_of_length_le (by rw [List.length_append, ShaMath.tail_len, ← hn0, ← hr0, hcl]; omega)]
              · rw [hml, hss.1]; exact HA6.out
          case measure => show p - n < p; omega
        · have HCAP : Hid _ := hcap
          go_wp2
          go_roundw
          case rel =>
            have hLn := HP.out
            have hC := HC'.out
            have hcl := HCL.out
            have hn0 := HN0.out
            have hr0 := HR0.out
            have hss := ShaMath.state_stay M cs (by rw [← hn0, ← hr0]; omega)
            refine ⟨j + n, some ⟨b0, off + n, none⟩, by omega, ?_, HRW.out _ (fun _ => rfl), (fun _ ad h => by injection h with h; rw [← h]; exact hsb), ?_, HG6.out⟩
            · rw [show L - (j + n) = p - n by omega, show cap - (j + n) = c' - n by omega]
            · rw [HST.out]
              have hml : (M ++ cs).length = n1 := by rw [List.length_append, ← hn0, hcl, ← HN1.out]
              refine ⟨blk', HBL'.out, hbb', ?_, ?_⟩
              · rw [hml, hss.2, show n1 % 64 = r + n by have := HN1.out; omega, HBT.out.2, List.take_append_of_le_length (by rw [List.length_append, ShaMath.tail_len, ← hn0, ← hr0, hcl]; omega), List.take_of_length_le (by rw [List.length_append, ShaMath.tail_len, ← hn0, ← hr0, hcl]; omega)]
              · rw [hml, hss.1]; exact HA6.out
          case measure => show p - n < p; omega
    · obtain rfl : j = L := by omega
      have e0 : j - j = 0 := by omega
      rw [e0]
      go_wp2
      refine ⟨rfl, .tuple #[], by simp [results, Tryz.results12], rfl, ?_, hgr⟩
      have hnl : (nats zs).length = j := by rw [HL.out]; simp [nats]
      have hta : (nats zs).take j = nats zs := List.take_of_length_le (by omega)
      rw [hta] at hbt hA
      exact ⟨blk, hbl, hbb, hbt, hA⟩

end Go.Proofs.YteockpllnhjooaaGreatDoor
namespace Go.Proofs.YteockpllnhjooaaGreatDoor
open Go.RowKit NumMath
set_option maxRecDepth 100000
set_option linter.unusedVariables false
set_option linter.unusedSimpArgs false
attribute [-simp] Tryz.isAgg131 Tryz.zeroValue131 Tryz.isAgg116 Tryz.zeroValue116 Tryz.isAgg113 Tryz.zeroValue113 Tryz.isAgg118 Tryz.isAgg117 Tryz.isAgg33 Tryz.zeroValue33

theorem out_get (s : ShaMath.St) (k : Nat) (h : k < 32) : (ShaMath.out s)[k]?.getD 0 = s.list[k / 4]?.getD 0 / 2 ^ (8 * (3 - k % 4)) % 256 := by
  have H : ∀ q t, q < 8 → t < 4 → (ShaMath.out s)[4 * q + t]?.getD 0 = s.list[q]?.getD 0 / 2 ^ (8 * (3 - t)) % 256 := by
    intro q t hq ht
    rcases (by omega : q = 0 ∨ q = 1 ∨ q = 2 ∨ q = 3 ∨ q = 4 ∨ q = 5 ∨ q = 6 ∨ q = 7) with rfl | rfl | rfl | rfl | rfl | rfl | rfl | rfl <;>
    rcases (by omega : t = 0 ∨ t = 1 ∨ t = 2 ∨ t = 3) with rfl | rfl | rfl | rfl <;> simp [ShaMath.out, ShaMath.bytesW, ShaMath.St.list]
  have := H (k / 4) (k % 4) (by omega) (by omega)
  rwa [show 4 * (k / 4) + k % 4 = k by omega] at this
theorem out_len (s : ShaMath.St) : (ShaMath.out s).length = 32 := rfl
theorem out_lt (s : ShaMath.St) : ∀ c ∈ ShaMath.out s, c < 256 := by
  intro c hc
  obtain ⟨x, _, hx⟩ := List.mem_flatMap.1 hc
  simp [ShaMath.bytesW] at hx
  omega
/-- A list that is filled from its head on. -/
def fillAt (l : List Nat) (k : Nat) : List Nat := l.take k ++ List.replicate (l.length - k) 0
theorem fillAt_len (l : List Nat) (k : Nat) (h : k ≤ l.length) : (fillAt l k).length = l.length := by simp [fillAt]; omega
theorem fillAt_zero (l : List Nat) : fillAt l 0 = List.replicate l.length 0 := by simp [fillAt]
theorem fillAt_end (l : List Nat) : fillAt l l.length = l := by simp [fillAt]
theorem fillAt_step (l : List Nat) (k : Nat) (h : k < l.length) : fillAt l (k + 1) = (fillAt l k).set k (l[k]?.getD 0) := by
  unfold fillAt
  have h1 : (l.take k).length = k := by simp; omega
  rw [List.set_append_right _ _ (by omega), h1, Nat.sub_self, show l.length - k = (l.length - (k + 1)) + 1 by omega, List.replicate_succ, List.take_succ_eq_append_getElem h, show l[k]?.getD 0 = l[k] by simp [h], List.append_assoc]
  rfl

set_option maxHeartbeats 4000000 in
theorem hashSum_any (g : Nat) (m : List Nat) (w : World) (ht : Tabs w) (hg : 2 < g) (hh : HashAt w g m) (hn : m.length < 576460752303423488) :
    Calls Tryz.prog 44 #[.pointer (some ⟨g, 0, none⟩)] w fun e w' => e = .returned (.agg (u8v (ShaMath.digest m)).toArray) ∧ Below w.heap.size w w' := by
  obtain ⟨z26, i26⟩ := zero_of_info zero26
  obtain ⟨z51, i51⟩ := zero_of_info zero51
  obtain ⟨Z, hZ⟩ : ∃ Z, Z = u8v (List.replicate 32 0) := ⟨_, rfl⟩
  obtain ⟨Y, hY⟩ : ∃ Y, Y = hashL ⟨0, 0, 0, 0, 0, 0, 0, 0⟩ (List.replicate 64 0) 0 := ⟨_, rfl⟩
  rw [← hZ] at z26
  rw [← hY] at z51
  have HZ : Hid (Z = u8v (List.replicate 32 0)) := hZ
  have HZl : Hid (Z.length = 32) := by show _ = _; rw [hZ, u8v_len]; simp
  have HYl : Hid (Y.length = 73) := by show _ = _; rw [hY]; exact hashL_len _ _ _ (by simp)
  obtain ⟨blk, hbl, hbb, hbt, hA⟩ := hh
  have hc72 : w.cell? ⟨g, 72, none⟩ = some (.int .u64 (m.length : Int)) := by rw [hA.cell 72]; exact hashL_size _ _ _ hbl
  have HH : Hid (∀ w' g', Arr w' g' 118 (hashL (ShaMath.state m) blk m.length) → HashAt w' g' m) := fun w' g' h => ⟨blk, hbl, hbb, hbt, h⟩
  have HO : Hid (∀ v ∈ hashL (ShaMath.state m) blk m.length, v.oneCell' = true) := by
    intro v hv
    simp only [hashL, List.mem_append, List.mem_singleton] at hv
    rcases hv with h | h | h
    · exact u32s_one _ v h
    · exact u8v_one _ v h
    · rw [h]; rfl
  have HXl : Hid ((hashL (ShaMath.state m) blk m.length).length = 73) := hashL_len _ _ _ hbl
  obtain ⟨X, hX⟩ : ∃ X, X = hashL (ShaMath.state m) blk m.length := ⟨_, rfl⟩
  rw [← hX] at HH HO HXl hA
  obtain ⟨n, hnn⟩ : ∃ n, n = m.length := ⟨_, rfl⟩
  rw [← hnn] at hc72 hn
  have HN : Hid (n = m.length) := hnn
  have HA : Hid _ := hA
  have hgl := hA.lt
  clear hZ hY i26 i51 hX hbl hbb hbt hA hnn
  have HA3 : Hid (Arr (((w.alloc (Obj.cells Z.toArray 33)).alloc (Obj.cells Y.toArray 118)).setRow (w.heap.size + 1) X.toArray) (w.heap.size + 1) 118 X) := Arr.row (Arr.new _ 118 Y (by simp))
  have HA2 : Hid (Arr (((w.alloc (Obj.cells Z.toArray 33)).alloc (Obj.cells Y.toArray 118)).setRow (w.heap.size + 1) X.toArray) w.heap.size 33 Z) := ((Arr.new w 33 Z rfl).alloc _).row_other _ (by omega)
  have HBl : Hid (Below w.heap.size w (((w.alloc (Obj.cells Z.toArray 33)).alloc (Obj.cells Y.toArray 118)).setRow (w.heap.size + 1) X.toArray)) := below_setRow (((Below.refl _ _).alloc (Nat.le_refl _) _).alloc (by simp) _) (by omega) _
  have HSz : Hid ((((w.alloc (Obj.cells Z.toArray 33)).alloc (Obj.cells Y.toArray 118)).setRow (w.heap.size + 1) X.toArray).heap.size = w.heap.size + 1 + 1) := by show _ = _; simp
  have hc3 : (((w.alloc (Obj.cells Z.toArray 33)).alloc (Obj.cells Y.toArray 118)).setRow (w.heap.size + 1) X.toArray).cell? ⟨g, 72, none⟩ = some (.int .u64 (n : Int)) := by rw [HBl.out.cell (by show g < w.heap.size; exact hgl)]; exact hc72
  go_enter Tryz.func44, Tryz.ntmps44
  go_wp2_with (first
    | (refine wpList_load_mid rfl 118 (.tmp 7) rfl g 0 rfl X _ (range_of_arr (Arr.alloc HA.out _)) Tryz.underlying118 rfl (by rw [HXl.out]; exact (zero_of_info zero51).2) ?_)
    | (refine wpList_store_arr rfl 118 (.tmp 3) (.tmp 8) rfl (w.heap.size + 1) 118 Y X rfl rfl (Arr.new _ 118 Y (by simp)) (by rw [HXl.out]; exact (zero_of_info zero51).2) (by rw [HYl.out, HXl.out]) HO.out ?_))
  clear hc3
  generalize (((w.alloc (Obj.cells Z.toArray 33)).alloc (Obj.cells Y.toArray 118)).setRow (w.heap.size + 1) X.toArray) = w3 at *
  refine Calls.mono (padding_any n w3 (by omega)) ?_
  rintro e w4 ⟨rfl, hrow4, hB4⟩
  have hg3 : w.heap.size + 1 < w3.heap.size := by have := HSz.out; omega
  have HR4 : Hid _ := hrow4
  have HA4 : Hid (Arr w4 (w.heap.size + 1) 118 X) := Arr.later HA3.out hB4 hg3
  have HA42 : Hid (Arr w4 w.heap.size 33 Z) := Arr.later HA2.out hB4 (by omega)
  have HB4 : Hid (Below w.heap.size w w4) := HBl.out.trans (hB4.mono (by omega))
  have hs4 := hB4.size
  have hpl := ShaMath.pad_len n
  have hzl : ShaMath.zerosOf n < 64 := Nat.mod_lt _ (by decide)
  obtain ⟨q, hq⟩ : ∃ q, q = (ShaMath.pad n).length := ⟨_, rfl⟩
  have HQ : Hid _ := hq
  have hql : q < 80 := by omega
  have htw4 : Tabs w4 := ht.later HB4.out ht.lt
  have hwr := write_any (w.heap.size + 1) m (some ⟨w3.heap.size, 0, none⟩) (ints (ShaMath.pad n)) (ShaMath.pad n).length w4 htw4 (by have := ht.lt; omega) (HH.out _ _ HA4.out) hrow4 (by intro _ ad h; injection h with h; rw [← h]; show w3.heap.size ≠ _; omega) (ints_byte (pad_lt n)) (by rw [ints_len]; exact Nat.le_refl _) (by unfold maxLen; omega) (by rw [ints_len, ← HN.out]; omega)
  rw [ints_len, nats_ints] at hwr
  rw [← hq] at hwr ⊢
  have HWR : Hid _ := hwr
  clear hwr hq hpl hzl hrow4 hB4
  go_wp2_with fail
  refine Calls.mono HWR.out ?_
  rintro e w5 ⟨rfl, hh5, hg5⟩
  have HB5 : Hid (Below w.heap.size w w5) := HB4.out.grown hg5 (by omega) (fun k h => by injection h with h; omega)
  have HA52 : Hid (Arr w5 w.heap.size 33 Z) := by
    have h := hg5.block w.heap.size (by omega) (by intro e; injection e; omega)
    show w5.heap[w.heap.size]? = _
    rw [h]; exact HA42.out
  obtain ⟨blk5, hbl5, _, _, hA5⟩ := hh5
  have hs5 := hg5.size
  have HA5 : Hid (Arr w5 (w.heap.size + 1) 118 (hashL (ShaMath.state (m ++ ShaMath.pad n)) blk5 (m ++ ShaMath.pad n).length)) := hA5
  have HDG : Hid (ShaMath.digest m = ShaMath.out (ShaMath.state (m ++ ShaMath.pad n))) := by show _ = _; rw [HN.out]; rfl
  have hSok := ShaMath.state_ok (m ++ ShaMath.pad n)
  generalize ShaMath.state (m ++ ShaMath.pad n) = S at *
  generalize (m ++ ShaMath.pad n).length = n5 at *
  clear hg5 HA4 HA42 HB4 HWR hA5 htw4 HR4 HA3 HA2 HBl HSz HH hc72
  go_wp2_with fail
  have HA6 : Hid (Arr (w5.alloc (Obj.cells Z.toArray 33)) w5.heap.size 33 (u8v (fillAt (ShaMath.out S) 0))) := by
    rw [fillAt_zero, out_len, ← HZ.out]; exact Arr.new w5 33 Z rfl
  have HA62 : Hid (Arr (w5.alloc (Obj.cells Z.toArray 33)) w.heap.size 33 Z) := Arr.alloc HA52.out _
  have HA63 : Hid (Arr (w5.alloc (Obj.cells Z.toArray 33)) (w.heap.size + 1) 118 (hashL S blk5 n5)) := Arr.alloc HA5.out _
  have HB6 : Hid (Below w.heap.size w (w5.alloc (Obj.cells Z.toArray 33))) := HB5.out.alloc HB5.out.size _
  generalize hw6 : w5.alloc (Obj.cells Z.toArray 33) = w6 at *
  obtain ⟨g4, hg4⟩ : ∃ g4, g4 = w5.heap.size := ⟨_, rfl⟩
  have hg4' : w.heap.size + 1 + 1 ≤ g4 := by omega
  rw [← hg4] at HA6 ⊢
  clear hg4 hw6 HA52 HA5 HB5
  go_loopw [15] (fun i wr => ∃ k : Nat, k ≤ 32 ∧ i = .int .i64 k ∧ Arr wr g4 33 (u8v (fillAt (ShaMath.out S) k)) ∧ Arr wr w.heap.size 33 Z ∧ Arr wr (w.heap.size + 1) 118 (hashL S blk5 n5) ∧ Below w.heap.size w wr) (fun i _ => 32 - (intOf i).toNat)
  case atStart => exact ⟨0, by omega, rfl, HA6.out, HA62.out, HA63.out, HB6.out⟩
  case round =>
    clear HA6 HA62 HA63 HB6
    obtain ⟨k, hk, rfl, h4, h2, h3, hBw⟩ := hrel
    by_cases hlt : k < 32
    · have hol := out_len S
      have hstep := fillAt_step (ShaMath.out S) k (by rw [hol]; exact hlt)
      have hlen := fillAt_len (ShaMath.out S) k (by rw [hol]; exact hk)
      rw [out_get S k hlt] at hstep
      have hcell := h4.cell8 k (by rw [hlen, hol]; exact hlt)
      have hfz := h4.frozen k
      have hword : wr.cell? ⟨w.heap.size + 1, k / 4, none⟩ = some (.int .u32 ((S.list[k / 4]?.getD 0 : Nat) : Int)) := by
        have h8 : k / 4 < S.list.length := by rw [list8]; omega
        have := hash_words h3 (k / 4) (.int .u32 ((S.list[k / 4]?.getD 0 : Nat) : Int)) (by simp [u32s, h8])
        rwa [Nat.zero_add] at this
      obtain ⟨t, ht1, ht2⟩ : ∃ t : Nat, (k : Int) % 4 = (t : Int) ∧ t = k % 4 := ⟨k % 4, by omega, rfl⟩
      have ht1' : (k : Int).tmod 4 = (t : Int) := by rw [Int.tmod_eq_emod_of_nonneg (by omega)]; exact ht1
      obtain ⟨u, hu1, hu2⟩ : ∃ u : Nat, (3 : Int) - (t : Int) = (u : Int) ∧ u = 3 - t := ⟨3 - t, by omega, rfl⟩
      obtain ⟨v, hv1, hv2⟩ : ∃ v : Nat, (8 : Int) * (u : Int) = (v : Int) ∧ v = 8 * u := ⟨8 * u, by omega, rfl⟩
      rw [← ht2, ← hu2, ← hv2] at hstep
      have hvl : v ≤ 24 := by omega
      have hvI : (v : Int) ≤ 32 := by omega
      generalize S.list[k / 4]?.getD 0 = W at *
      generalize (fillAt (ShaMath.out S) k)[k]?.getD 0 = D at *
      obtain ⟨b, hb1, hb2⟩ : ∃ b : Nat, (W : Int) / 2 ^ v % 256 = (b : Int) ∧ b = W / 2 ^ v % 256 := ⟨_, by simp, rfl⟩
      rw [← hb2] at hstep
      have HST : Hid _ := hstep
      have H4 : Hid _ := h4
      have H2 : Hid _ := h2
      have H3 : Hid _ := h3
      have hkq : k / 4 < 8 := by omega
      clear hstep h4 h2 h3 hol hlen ht2 hu2 hv2 hb2
      go_wp2
      go_roundw
      case rel => exact ⟨k + 1, by omega, by go_num, by rw [HST.out, ← u8v_set]; exact Arr.set H4.out _ _, Arr.set_other H2.out _ (by simp; omega) _, Arr.set_other H3.out _ (by simp; omega) _, hBw.setCell (by simp; omega) _⟩
      case measure => simp [intOf]; omega
    · obtain rfl : k = 32 := by omega
      rw [show fillAt (ShaMath.out S) 32 = ShaMath.out S from fillAt_end (ShaMath.out S), ← HDG.out] at h4
      have H4 : Hid _ := h4
      have H2 : Hid _ := h2
      have HDl : Hid ((u8v (ShaMath.digest m)).length = 32) := by show _ = _; rw [u8v_len, HDG.out]; rfl
      have HOd : Hid _ := u8v_one (ShaMath.digest m)
      obtain ⟨R, hR⟩ : ∃ R, R = u8v (ShaMath.digest m) := ⟨_, rfl⟩
      rw [← hR] at H4 HDl HOd
      have HR : Hid (R = u8v (ShaMath.digest m)) := hR
      clear h4 h2 hlt hR h3
      go_wp2_with (first
        | (refine wpList_load_mid rfl 33 (.tmp 4) rfl g4 0 rfl R (.array 32 5) (range_of_arr H4.out) Tryz.underlying33 rfl (by rw [HDl.out]; exact size26) ?_)
        | (refine wpList_store_arr rfl 33 (.tmp 2) (.tmp 32) rfl w.heap.size 33 Z R rfl rfl H2.out (by rw [HDl.out]; exact size26) (by rw [HZl.out, HDl.out]) HOd.out ?_))
      (try simp only [Exit.inBlock, Exit.then])
      refine ret_arr w.heap.size 33 R (.array 32 5) rfl rfl (Arr.row H2.out) Tryz.underlying33 rfl (by rw [HDl.out]; exact size26) rfl ⟨by rw [HR.out], below_setRow hBw (Nat.le_refl _) _⟩

theorem digest_len (m : List Nat) : (ShaMath.digest m).length = 32 := rfl
theorem allB_nats_len (ps : List Part) (k : Nat) : (nats (allB (ps.take k))).length ≤ (allB ps).length := by
  have h : (allB ps) = allB (ps.take k) ++ allB (ps.drop k) := by unfold allB; rw [← List.flatMap_append, List.take_append_drop]
  rw [h]; simp [nats]

set_option maxHeartbeats 4000000 in
theorem shaSum_any (a : Option Addr) (ps : List Part) (cap : Nat) (w : World) (ht : Tabs w) (hr : Parts w a ps) (hc : ps.length ≤ cap) (hm : cap ≤ maxLen) (hn : (allB ps).length < 576460752303423488) :
    Calls Tryz.prog 22 #[.slice a ps.length cap] w fun e w' => e = .returned (.agg (u8v (ShaMath.digest (nats (allB ps)))).toArray) ∧ Below w.heap.size w w' := by
  unfold maxLen at hm
  obtain ⟨z26, i26⟩ := zero_of_info zero26
  obtain ⟨Z, hZ⟩ : ∃ Z, Z = u8v (List.replicate 32 0) := ⟨_, rfl⟩
  rw [← hZ] at z26
  have HZl : Hid (Z.length = 32) := by show _ = _; rw [hZ, u8v_len]; simp
  obtain ⟨L, hL⟩ : ∃ L, L = ps.length := ⟨_, rfl⟩
  rw [← hL] at hc ⊢
  have HL : Hid (L = ps.length) := hL
  have HP : Hid _ := hr
  have HT : Hid _ := ht
  clear hZ i26 hL hr ht
  go_enter Tryz.func22, Tryz.ntmps22
  go_wp2_with fail
  have htl := HT.out.lt
  have HBa : Hid (Below w.heap.size w (w.alloc (Obj.cells Z.toArray 33))) := (Below.refl _ _).alloc (Nat.le_refl _) _
  have hAa : Arr (w.alloc (Obj.cells Z.toArray 33)) w.heap.size 33 Z := Arr.new w 33 Z rfl
  have hsz : (w.alloc (Obj.cells Z.toArray 33)).heap.size = w.heap.size + 1 := by simp
  generalize (w.alloc (Obj.cells Z.toArray 33)) = w1 at *
  refine (new_any w1 (HT.out.later HBa.out htl)).mono ?_
  rintro e w2 ⟨rfl, hh2, hB2⟩
  obtain ⟨gh, hgh⟩ : ∃ gh, gh = w1.heap.size := ⟨_, rfl⟩
  have HGh : Hid (gh = w.heap.size + 1) := by show _ = _; rw [hgh, hsz]
  rw [← hgh] at hh2 ⊢
  have HA2 : Hid (Arr w2 w.heap.size 33 Z) := Arr.later hAa hB2 (by omega)
  have HB2 : Hid (Below w.heap.size w w2) := HBa.out.trans (hB2.mono (by omega))
  have HH2 : Hid _ := hh2
  clear HBa hAa hsz hgh hB2 hh2
  go_wp2_with fail
  go_loopw [9] (fun i wr => ∃ k : Nat, k ≤ L ∧ i = .int .i64 k ∧ HashAt wr gh (nats (allB (ps.take k))) ∧ Arr wr w.heap.size 33 Z ∧ Below w.heap.size w wr) (fun i _ => L - (intOf i).toNat)
  case atStart => exact ⟨0, by omega, rfl, by rw [show nats (allB (ps.take 0)) = [] by simp [allB, nats]]; exact HH2.out, HA2.out, HB2.out⟩
  case round =>
    clear HH2 HA2 HB2
    obtain ⟨k, hk, rfl, hh, hA, hBw⟩ := hrel
    have hgh : w.heap.size + 1 ≤ gh := by have := HGh.out; omega
    by_cases hlt : k < L
    · have hkl : k < ps.length := by have := HL.out; omega
      obtain ⟨p, hp⟩ : ∃ p, p = ps[k]?.getD noPart := ⟨_, rfl⟩
      have hpm : p ∈ ps := by rw [hp]; exact part_mem ps k hkl
      have hok := HP.out.2 p hpm
      obtain ⟨b, off, ha, hcell⟩ : ∃ b off, a = some ⟨b, off, none⟩ ∧ ∀ i, i < ps.length → w.cell? ⟨b, off + i, none⟩ = some (ps[i]?.getD noPart).val := by
        rcases HP.out.1 with h | h
        · rw [h] at hkl; simp at hkl
        · exact h
      have hcw : wr.cell? ⟨b, off + k, none⟩ = some (.slice p.a p.zs.length p.cap) := by
        have h := hcell k hkl
        rw [hBw.cell (World.block_lt_of_cell? w _ h), h, ← hp]; rfl
      have hsn := parts_snoc ps k hkl
      rw [← hp] at hsn
      have HSN : Hid (nats (allB (ps.take (k + 1))) = nats (allB (ps.take k)) ++ nats p.zs) := by show _ = _; rw [hsn, nats_append]
      have hbound := allB_nats_len ps (k + 1)
      rw [HSN.out, List.length_append] at hbound
      have hnz : (nats p.zs).length = p.zs.length := by simp [nats]
      have hokw := hok.later hBw
      have hw := write_any gh (nats (allB (ps.take k))) p.a p.zs p.cap wr (HT.out.later hBw htl) (by omega) hh hokw.1 (by
        intro h0 ad had
        rcases hok.1 with h | ⟨b', off', ha', hc'⟩
        · rw [h] at h0; simp at h0
        · rw [had] at ha'; injection ha' with ha'; subst ha'
          have := World.block_lt_of_cell? w _ (hc' 0 h0)
          show b' ≠ gh
          have hb2 : b' < w.heap.size := this
          omega) hokw.2.1 hokw.2.2.1 hokw.2.2.2 (by omega)
      rw [← HSN.out] at hw
      have HW : Hid _ := hw
      have HA : Hid _ := hA
      subst ha
      clear hp hpm hok hcell hsn hbound hnz hokw hw hh hA
      obtain ⟨pa, pl, pc, hv⟩ : ∃ pa pl pc, Value.slice p.a p.zs.length p.cap = .slice pa pl pc := ⟨_, _, _, rfl⟩
      rw [hv] at hcw HW
      clear hv
      go_wp2_with fail
      refine Calls.mono HW.out ?_
      rintro e w3 ⟨rfl, hh3, hg3⟩
      have HB3 : Hid (Below w.heap.size w w3) := hBw.grown hg3 hBw.size (fun k h => by injection h with h; omega)
      have HA3 : Hid (Arr w3 w.heap.size 33 Z) := by
        have h := hg3.block w.heap.size (Arr.lt HA.out) (by intro e; injection e; omega)
        show w3.heap[w.heap.size]? = _
        rw [h]; exact HA.out
      have HH3 : Hid _ := hh3
      clear hh3 hg3 HW hcw
      go_wp2
      go_roundw
      case rel => exact ⟨k + 1, by omega, by go_num, HH3.out, HA3.out, HB3.out⟩
      case measure => simp [intOf]; omega
    · have hkl : k = L := by omega
      subst hkl
      rw [List.take_of_length_le (by have := HL.out; omega)] at hh
      have HA : Hid _ := hA
      have hsum := hashSum_any gh (nats (allB ps)) wr (HT.out.later hBw htl) (by omega) hh (by simpa [nats] using hn)
      have HS : Hid _ := hsum
      have hd : decide ((k : Int) < (k : Int)) = false := by simp
      clear hsum hh hA
      have HDl : Hid ((u8v (ShaMath.digest (nats (allB ps)))).length = 32) := by show _ = _; rw [u8v_len]; rfl
      have HOd : Hid _ := u8v_one (ShaMath.digest (nats (allB ps)))
      obtain ⟨R, hR⟩ : ∃ R, R = u8v (ShaMath.digest (nats (allB ps))) := ⟨_, rfl⟩
      rw [← hR] at HDl HOd HS
      have HR : Hid (R = u8v (ShaMath.digest (nats (allB ps)))) := hR
      clear hR
      go_wp2_with fail
      refine Calls.mono HS.out ?_
      rintro e w3 ⟨rfl, hB3⟩
      have HB3 : Hid (Below w.heap.size w w3) := hBw.trans (hB3.mono hBw.size)
      have HA3 : Hid (Arr w3 w.heap.size 33 Z) := Arr.later HA.out hB3 (Arr.lt HA.out)
      clear hB3 HS
      go_wp2_with (refine wpList_store_arr rfl 33 (.tmp 2) (.tmp 18) rfl w.heap.size 33 Z R rfl rfl HA3.out (by rw [HDl.out]; exact size26) (by rw [HZl.out, HDl.out]) HOd.out ?_)
      (try simp only [Exit.inBlock, Exit.then])
      refine ret_arr w.heap.size 33 R (.array 32 5) rfl rfl (Arr.row HA3.out) Tryz.underlying33 rfl (by rw [HDl.out]; exact size26) rfl ⟨by rw [HR.out], below_setRow HB3.out (Nat.le_refl _) _⟩

end Go.Proofs.YteockpllnhjooaaGreatDoor

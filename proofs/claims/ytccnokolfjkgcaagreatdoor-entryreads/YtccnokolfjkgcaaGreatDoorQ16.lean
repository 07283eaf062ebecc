/-
  ShaKit, FnShaPad.
-/
import Derived.Test.YtccnokolfjkgcaaGreatDoorQ01
import Derived.Test.YtccnokolfjkgcaaGreatDoorQ15
import Derived.Deep.WholeRow
import Derived.Laws.CopyOwn
import Derived.Test.YtccnokolfjkgcaaGreatDoorQ03
namespace Go.Proofs.YtccnokolfjkgcaaGreatDoor
open Go.RowKit NumMath
set_option maxRecDepth 100000
set_option linter.unusedVariables false
set_option linter.unusedSimpArgs false

/-- Numbers as values. -/
def u32s (l : List Nat) : List Value := l.map fun (x : Nat) => Value.int .u32 (x : Int)
def u8v (l : List Nat) : List Value := l.map fun (x : Nat) => Value.int .u8 (x : Int)
/-- Block g is an array of these values. -/
def Arr (w : World) (g t : Nat) (l : List Value) : Prop := w.heap[g]? = some (.cells l.toArray t (0, 0))
theorem u32s_len (l : List Nat) : (u32s l).length = l.length := by simp [u32s]
theorem u8v_len (l : List Nat) : (u8v l).length = l.length := by simp [u8v]
theorem u32s_set (l : List Nat) (i x : Nat) : (u32s l).set i (.int .u32 (x : Int)) = u32s (l.set i x) := by simp [u32s, List.map_set]
theorem u8v_set (l : List Nat) (i x : Nat) : (u8v l).set i (.int .u8 (x : Int)) = u8v (l.set i x) := by simp [u8v, List.map_set]
theorem u32s_one (l : List Nat) : ∀ v ∈ u32s l, v.oneCell' = true := by intro v hv; obtain ⟨x, _, rfl⟩ := List.mem_map.1 hv; rfl
theorem u8v_one (l : List Nat) : ∀ v ∈ u8v l, v.oneCell' = true := by intro v hv; obtain ⟨x, _, rfl⟩ := List.mem_map.1 hv; rfl
theorem Arr.lt {w : World} {g t : Nat} {l : List Value} (h : Arr w g t l) : g < w.heap.size := (Array.getElem?_eq_some_iff.1 h).1
theorem Arr.cell {w : World} {g t : Nat} {l : List Value} (h : Arr w g t l) (j : Nat) : w.cell? ⟨g, j, none⟩ = l[j]? := by
  rw [cell_of_row w g j _ t _ h]; simp
theorem Arr.cell32 {w : World} {g t : Nat} {l : List Nat} (h : Arr w g t (u32s l)) (j : Nat) (hj : j < l.length) : w.cell? ⟨g, j, none⟩ = some (.int .u32 ((l[j]?.getD 0 : Nat) : Int)) := by
  rw [h.cell j]; simp [u32s, hj]
theorem Arr.cell8 {w : World} {g t : Nat} {l : List Nat} (h : Arr w g t (u8v l)) (j : Nat) (hj : j < l.length) : w.cell? ⟨g, j, none⟩ = some (.int .u8 ((l[j]?.getD 0 : Nat) : Int)) := by
  rw [h.cell j]; simp [u8v, hj]
theorem Arr.frozen {w : World} {g t : Nat} {l : List Value} (h : Arr w g t l) (j : Nat) : w.frozen? ⟨g, j, none⟩ = false := frozen_of_row w g j _ t h
theorem Arr.set {w : World} {g t : Nat} {l : List Value} (h : Arr w g t l) (j : Nat) (v : Value) : Arr (w.setCell ⟨g, j, none⟩ v) g t (l.set j v) := by
  have := heap_setCell_same w g j _ t v h
  unfold Arr
  rw [this]; simp
theorem Arr.set_other {w : World} {g t : Nat} {l : List Value} (h : Arr w g t l) (p : Addr) (hp : g ≠ p.block) (v : Value) : Arr (w.setCell p v) g t l := by
  unfold Arr; rw [heap_setCell_other w p g v hp]; exact h
theorem Arr.alloc {w : World} {g t : Nat} {l : List Value} (h : Arr w g t l) (o : Obj) : Arr (w.alloc o) g t l := by
  unfold Arr; rw [Below.heap_alloc w o g h.lt]; exact h
theorem Arr.new (w : World) (t : Nat) (l : List Value) {g : Nat} (hg : g = w.heap.size) : Arr (w.alloc (.cells l.toArray t)) g t l := by
  subst hg; exact heap_alloc_last w _
theorem Arr.drewN {w : World} {g t : Nat} {l : List Value} (h : Arr w g t l) (n : Nat) : Arr (w.drewN n) g t l := h
theorem Arr.drew {w : World} {g t : Nat} {l : List Value} (h : Arr w g t l) : Arr w.drew g t l := h
theorem Arr.later {w w' : World} {g t : Nat} {l : List Value} {B : Nat} (h : Arr w g t l) (hb : Below B w w') (hg : g < B) : Arr w' g t l := by
  unfold Arr; rw [hb.block g hg]; exact h
/-- The whole array by value. -/
theorem Arr.load {w : World} {g t ty : Nat} {l : List Value} (h : Arr w g t l) (d : TypeDesc) (hu : Tryz.prog.underlying ty = some d) (hd : d.isRow = true) (hi : (Tryz.prog.info? ty).map (·.size) = some l.length) :
    (loadVar ty ⟨g, 0, none⟩).run Tryz.prog w = .ok (.agg l.toArray) w :=
  run_loadVar_row w g t ty l.toArray (0, 0) d h hu (by cases d <;> simp_all) (by simpa using hi)
theorem Arr.store {w : World} {g t ty : Nat} {l l' : List Value} (h : Arr w g t l) (hi : (Tryz.prog.info? ty).map (·.size) = some l'.length) (ho : l.length = l'.length) (h1 : ∀ v ∈ l', v.oneCell' = true) :
    (storeVar ty ⟨g, 0, none⟩ (.agg l'.toArray)).run Tryz.prog w = .ok () (w.setRow g l'.toArray) :=
  run_storeVar_row w g t ty _ _ h (by simpa using hi) (by simpa using ho) (all_oneCell_toArray h1)
theorem Arr.row {w : World} {g t : Nat} {l l' : List Value} (h : Arr w g t l) : Arr (w.setRow g l'.toArray) g t l' := setRow_heap w g _ _ t _ h
theorem Arr.row_other {w : World} {g g' t : Nat} {l : List Value} (h : Arr w g t l) (cs : Array Value) (hg : g ≠ g') : Arr (w.setRow g' cs) g t l := by
  unfold Arr; rw [setRow_other w g' g cs hg]; exact h

theorem zero47 : (Tryz.prog.info? 118).map (fun i => (i.zero, i.size)) = some (some (.agg (u32s (List.replicate 8 0)).toArray), 8) := by kernel_rfl
theorem zero58 : (Tryz.prog.info? 140).map (fun i => (i.zero, i.size)) = some (some (.agg (u32s (List.replicate 64 0)).toArray), 64) := by kernel_rfl
theorem zero49 : (Tryz.prog.info? 121).map (fun i => (i.zero, i.size)) = some (some (.agg (u8v (List.replicate 64 0)).toArray), 64) := by kernel_rfl
theorem zero26 : (Tryz.prog.info? 33).map (fun i => (i.zero, i.size)) = some (some (.agg (u8v (List.replicate 32 0)).toArray), 32) := by kernel_rfl

/-- An element of an array by value. -/
theorem run_index_row {P : Program} {w : World} (t e : TypeId) (n : Nat) (cs : List Value) (i : Nat) (v : Value) (h : P.underlying t = some (.array n e)) (hs : (P.info? e).map (fun x => (x.size)) = some 1) (ha : (isAgg e).run P w = .ok false w) (hi : i < n) (hv : cs[i]? = some v) :
    (Instr.index t (.agg cs.toArray) (.int .i64 (i : Int))).run P w = .ok v w := by
  cases hq : P.info? e with
  | none => simp [hq] at hs
  | some x =>
    have hx : x.size = 1 := by simpa [hq] using hs
    simp [Instr.index, run_underlying h, asIntOf, go_sem, hi, sizeOf, typeInfo, hq, hx, ha]
    rw [hv]; rfl
theorem range_of_arr {w : World} {g t : Nat} {l : List Value} (h : Arr w g t l) : w.rangeAt g 0 l := by
  intro j v hv
  rw [Nat.zero_add, h.cell j]; exact hv
theorem size5 : (Tryz.prog.info? 5).map (fun x => x.size) = some 1 := by kernel_rfl
theorem size46 : (Tryz.prog.info? 117).map (fun x => x.size) = some 1 := by kernel_rfl
theorem size49 : (Tryz.prog.info? 121).map (·.size) = some 64 := by kernel_rfl
theorem size58 : (Tryz.prog.info? 140).map (·.size) = some 64 := by kernel_rfl
theorem size47 : (Tryz.prog.info? 118).map (·.size) = some 8 := by kernel_rfl
theorem size26 : (Tryz.prog.info? 33).map (·.size) = some 32 := by kernel_rfl
theorem or8 (x c : Nat) (hx : x < 16777216) (hc : c < 256) : bits .or .u32 ((x : Int) * 256) (c : Int) = ((x * 256 + c : Nat) : Int) := by
  rw [show (x : Int) * 256 = ((x * 256 : Nat) : Int) by simp, u32_or_nat _ _ (by omega) (by omega)]
  have := Nat.two_pow_add_eq_or_of_lt (i := 8) (by omega : c < 2 ^ 8) x
  rw [Nat.mul_comm x 256]
  exact congrArg _ this.symm

theorem wrap32 (n : Int) : IntKind.u32.wrap n = n % 4294967296 := by simp [IntKind.wrap, IntKind.bits, IntKind.signed]
theorem div_lt {x : Nat} (n : Nat) (h : x < 4294967296) : x / n < 4294967296 := Nat.lt_of_le_of_lt (Nat.div_le_self _ _) h
theorem small0_bits (x : Nat) (h : x < 4294967296) : bits .xor .u32 (bits .xor .u32 (ShaMath.rotr x 7 : Nat) (ShaMath.rotr x 18 : Nat)) ((x : Int) / 8) = ((ShaMath.small0 x : Nat) : Int) := by
  rw [u32_xor_nat _ _ (rotr_lt x 7 h) (rotr_lt x 18 h), show ((x : Int) / 8) = ((x / 2 ^ 3 : Nat) : Int) by simp, u32_xor_nat _ _ (xor_lt32 (rotr_lt x 7 h) (rotr_lt x 18 h)) (div_lt _ h)]
  rfl
theorem small1_bits (x : Nat) (h : x < 4294967296) : bits .xor .u32 (bits .xor .u32 (ShaMath.rotr x 17 : Nat) (ShaMath.rotr x 19 : Nat)) ((x : Int) / 1024) = ((ShaMath.small1 x : Nat) : Int) := by
  rw [u32_xor_nat _ _ (rotr_lt x 17 h) (rotr_lt x 19 h), show ((x : Int) / 1024) = ((x / 2 ^ 10 : Nat) : Int) by simp, u32_xor_nat _ _ (xor_lt32 (rotr_lt x 17 h) (rotr_lt x 19 h)) (div_lt _ h)]
  rfl
theorem sched_val (p16 p15 p7 p2 : Nat) (b15 : p15 < 4294967296) (b2 : p2 < 4294967296) :
    IntKind.u32.wrap (IntKind.u32.wrap (IntKind.u32.wrap ((p16 : Int) + p7) + bits .xor .u32 (bits .xor .u32 (ShaMath.rotr p15 7 : Nat) (ShaMath.rotr p15 18 : Nat)) ((p15 : Int) / 8)) + bits .xor .u32 (bits .xor .u32 (ShaMath.rotr p2 17 : Nat) (ShaMath.rotr p2 19 : Nat)) ((p2 : Int) / 1024))
      = (((p16 + ShaMath.small0 p15 + p7 + ShaMath.small1 p2) % 4294967296 : Nat) : Int) := by
  rw [small0_bits _ b15, small1_bits _ b2, wrap32, wrap32, wrap32]
  omega
theorem sched_val' (p16 p15 p7 p2 : Nat) (b15 : p15 < 4294967296) (b2 : p2 < 4294967296) :
    IntKind.u32.wrap (IntKind.u32.wrap (IntKind.u32.wrap ((p16 : Int) + bits .xor .u32 (bits .xor .u32 (ShaMath.rotr p15 7 : Nat) (ShaMath.rotr p15 18 : Nat)) ((p15 : Int) / 8)) + p7) + bits .xor .u32 (bits .xor .u32 (ShaMath.rotr p2 17 : Nat) (ShaMath.rotr p2 19 : Nat)) ((p2 : Int) / 1024))
      = (((p16 + ShaMath.small0 p15 + p7 + ShaMath.small1 p2) % 4294967296 : Nat) : Int) := by
  rw [small0_bits _ b15, small1_bits _ b2, wrap32, wrap32, wrap32]
  omega

/-- A whole array into a block that is known whole. -/
theorem wpList_store_arr {ops : Array Oper} {rest : List Oper} {op : Oper} {a : Act} {w : World} {Q : Exit → Act → World → Prop} (hgd : op.guard = none) (ty : TypeId) (x y : Operand) (ho : op.op = .store ty x y)
    (g t : Nat) (l l' : List Value) (hx : a.eval x = .pointer (some ⟨g, 0, none⟩)) (hy : a.eval y = .agg l'.toArray) (h : Arr w g t l)
    (hi : (Tryz.prog.info? ty).map (·.size) = some l'.length) (hl : l.length = l'.length) (h1 : ∀ v ∈ l', v.oneCell' = true)
    (hn : wpList Tryz.prog ops Q rest (a.put op.dst undef) (w.setRow g l'.toArray)) : wpList Tryz.prog ops Q (op :: rest) a w := by
  refine wpList_plain hgd fun K hK => ?_
  unfold Oper.wp execOp
  simp only [ho, hx, hy, Instr.storeAt, Instr.sureAddr, Sem.run_bind, Sem.run_pure, Result.andThen_ok, Arr.store h hi hl h1]
  exact hK _ _ hn

/-- The result that lies in an array's own variable. -/
theorem ret_arr {fn : Func} {R : Ending → World → Prop} {a : Act} {w : World} {p : Tmp} {ty : TypeId} (g t : Nat) (l : List Value) (d : TypeDesc) (h : fn.results = #[.cell p ty]) (hp : a.tmps.getD p undef = .pointer (some ⟨g, 0, none⟩)) (hA : Arr w g t l)
    (hu : Tryz.prog.underlying ty = some d) (hd : d.isRow = true) (hi : (Tryz.prog.info? ty).map (·.size) = some l.length) (hdf : a.defers = []) (hR : R (.returned (.agg l.toArray)) w) : bodyPost Tryz.prog fn R .ret a w :=
  bodyPost_ret (results_cell_row h a.tmps w g t l.toArray (0, 0) d hp hA hu (by cases d <;> simp_all) (by simpa using hi)) hdf hR

end Go.Proofs.YtccnokolfjkgcaaGreatDoor
namespace Go.Proofs.YtccnokolfjkgcaaGreatDoor
open Go.RowKit NumMath
set_option maxRecDepth 100000
set_option linter.unusedVariables false
set_option linter.unusedSimpArgs false

/-- Natural numbers as the walk's. -/
def ints (l : List Nat) : List Int := l.map fun (x : Nat) => (x : Int)
theorem ints_len (l : List Nat) : (ints l).length = l.length := by simp [ints]
theorem ints_u8 (l : List Nat) : (ints l).map (Value.int .u8) = u8v l := by simp [ints, u8v]
theorem nats_ints (l : List Nat) : nats (ints l) = l := by
  unfold nats ints; rw [List.map_map]
  exact (List.map_congr_left (fun x _ => by simp)).trans (List.map_id _)
theorem ints_byte {l : List Nat} (h : ∀ c ∈ l, c < 256) : ∀ c ∈ ints l, 0 ≤ c ∧ c ≤ 255 := by
  intro c hc; obtain ⟨x, hx, rfl⟩ := List.mem_map.1 hc; have := h x hx; omega

def padT (n k : Nat) : List Nat := List.replicate (8 - k) 0 ++ (ShaMath.fix8 (8 * n)).drop (8 - k)
def padAt (n k : Nat) : List Nat := 128 :: (List.replicate (ShaMath.zerosOf n) 0 ++ padT n k)
theorem padT_step (n k : Nat) (h : k < 8) : padT n (k + 1) = (padT n k).set (7 - k) (8 * n / 256 ^ k % 256) := by
  match k, h with
  | 0, _ => simp [padT, ShaMath.fix8]
  | 1, _ => simp [padT, ShaMath.fix8]
  | 2, _ => simp [padT, ShaMath.fix8]
  | 3, _ => simp [padT, ShaMath.fix8]
  | 4, _ => simp [padT, ShaMath.fix8]
  | 5, _ => simp [padT, ShaMath.fix8]
  | 6, _ => simp [padT, ShaMath.fix8]
  | 7, _ => simp [padT, ShaMath.fix8]
theorem padT_len (n k : Nat) (h : k ≤ 8) : (padT n k).length = 8 := by simp [padT, ShaMath.fix8] <;> omega
theorem padAt_len (n k : Nat) (h : k ≤ 8) : (padAt n k).length = ShaMath.zerosOf n + 9 := by simp [padAt, padT_len n k h]
theorem padAt_step (n k : Nat) (h : k < 8) : padAt n (k + 1) = (padAt n k).set (ShaMath.zerosOf n + 8 - k) (8 * n / 256 ^ k % 256) := by
  unfold padAt
  rw [padT_step n k h, show ShaMath.zerosOf n + 8 - k = (ShaMath.zerosOf n + (7 - k)) + 1 by omega, List.set_cons_succ, List.set_append_right _ _ (by simp)]
  simp
theorem padAt_end (n : Nat) : padAt n 8 = ShaMath.pad n := by simp [padAt, padT, ShaMath.pad]
theorem padAt_zero (n : Nat) : padAt n 0 = 128 :: List.replicate (ShaMath.zerosOf n + 8) 0 := by
  unfold padAt padT
  rw [show (ShaMath.fix8 (8 * n)).drop (8 - 0) = [] from rfl, List.append_nil, List.replicate_append_replicate]
theorem fix8_lt (n : Nat) : ∀ c ∈ ShaMath.fix8 n, c < 256 := by
  intro c hc; simp [ShaMath.fix8] at hc; omega
theorem pad_lt (n : Nat) : ∀ c ∈ ShaMath.pad n, c < 256 := by
  intro c hc
  simp only [ShaMath.pad, List.mem_cons, List.mem_append, List.mem_replicate] at hc
  rcases hc with h | h | h
  · omega
  · omega
  · exact fix8_lt _ c h

theorem made0 (n : Nat) : (madeCells (Value.int .u8 0).cells (n * 1)).toList = u8v (List.replicate n 0) := by
  rw [Nat.mul_one, show (Value.int .u8 0).cells = #[.int .u8 0] from rfl, toList_madeCells_one]
  simp [u8v]
theorem own_arr {w : World} {base g n : Nat} {xs : List Value} (h : w.ownsRow base 5 1 (.slice (some ⟨g, 0, none⟩) n n) n xs) : Arr w g 5 xs := by
  rcases h.2 with ⟨h', _⟩ | ⟨g', cap', cur, h', _, hg, _, _, hcs, htake⟩
  · simp at h'
  · simp only [Value.slice.injEq, Option.some.injEq, Addr.mk.injEq, and_true, true_and] at h'
    obtain ⟨rfl, rfl⟩ := h'
    unfold Arr
    rw [hg, ← htake, List.take_of_length_le (by simp [hcs])]
theorem arr_row {w : World} {g t : Nat} {l : List Nat} (h : Arr w g t (u8v l)) : Row .u8 w (some ⟨g, 0, none⟩) (ints l) := by
  refine .inr ⟨g, 0, rfl, fun i hi => ?_⟩
  have hi' : i < l.length := by simpa [ints] using hi
  rw [Nat.zero_add, h.cell8 i hi']
  simp [ints, hi']

theorem padding_any (n : Nat) (w : World) (hn : n < 1152921504606846976) :
    Calls Tryz.prog 75 #[.int .u64 (n : Int)] w fun e w' => e = .returned (.slice (some ⟨w.heap.size, 0, none⟩) (ShaMath.pad n).length (ShaMath.pad n).length) ∧ Row .u8 w' (some ⟨w.heap.size, 0, none⟩) (ints (ShaMath.pad n)) ∧ Below w.heap.size w w' := by
  obtain ⟨i0, hi, hz0, hz1, hz2⟩ := info_parts Tryz.info5
  obtain ⟨z, hz⟩ : ∃ z : Nat, z = ShaMath.zerosOf n := ⟨_, rfl⟩
  have hzl : z < 64 := by rw [hz]; exact Nat.mod_lt _ (by decide)
  have hz' : (119 - (n : Int) % 64) % 64 = (z : Int) := by rw [hz]; unfold ShaMath.zerosOf; omega
  have HZ : Hid (z = ShaMath.zerosOf n) := hz
  clear hz
  go_enter Tryz.func75, Tryz.ntmps75
  go_wp2_with (at_make; refine wpList_make_full _ rfl _ _ 48 rfl w.heap.size 5 i0 (.int .u8 0) 1 Tryz.underlying48 hi hz0 hz1 _ _ _ _ (z + 9) rfl rfl (by omega) (by omega) (by rw [hz2]; omega) (by unfold maxLen; omega) (Nat.le_refl _) ?_; intro w0 hown0 hgrow0; rw [made0] at hown0; have hA0 := own_arr hown0; have hb0 : Below w.heap.size w w0 := (Below.refl _ _).grown hgrow0 (Nat.le_refl _) (fun k h => by cases h); have hc0 := hA0.cell8 0 (by simp); have hf0 := hA0.frozen 0; clear hown0 hgrow0)
  have hA1 := hA0.set 0 (.int .u8 128)
  rw [show (.int .u8 128 : Value) = .int .u8 ((128 : Nat) : Int) from rfl, u8v_set, show (List.replicate (z + 9) 0).set 0 128 = padAt n 0 by rw [padAt_zero, ← HZ.out, show z + 9 = (z + 8) + 1 from rfl, List.replicate_succ]; rfl] at hA1
  have hb1 : Below w.heap.size w (w0.setCell ⟨w.heap.size, 0, none⟩ (.int .u8 128)) := hb0.setCell (Nat.le_refl _) _
  clear hA0 hc0 hf0 hb0
  generalize w0.setCell ⟨w.heap.size, 0, none⟩ (.int .u8 128) = w1 at *
  go_loopw [16] (fun i wr => ∃ k : Nat, k ≤ 8 ∧ i = .int .i64 k ∧ Arr wr w.heap.size 5 (u8v (padAt n k)) ∧ Below w.heap.size w wr) (fun i _ => 8 - (intOf i).toNat)
  case atStart => exact ⟨0, by omega, rfl, hA1, hb1⟩
  case round =>
    obtain ⟨k, hk, rfl, hA, hBw⟩ := hrel
    clear hA1 hb1
    by_cases hlt : k < 8
    · have hstep := padAt_step n k hlt
      rw [← HZ.out] at hstep
      have hlen := padAt_len n k hk
      rw [← HZ.out] at hlen
      obtain ⟨q, hq1, hq⟩ : ∃ q : Nat, (z : Int) + 9 - 1 - (k : Int) = (q : Int) ∧ q = z + 8 - k := ⟨z + 8 - k, by omega, rfl⟩
      have hcell := hA.cell8 q (by omega)
      have hfz := hA.frozen q
      have h2 := two8 k
      obtain ⟨x, hx, gx⟩ : ∃ x : Nat, (8 * (n : Int)) / 256 ^ k % 256 = (x : Int) ∧ x = 8 * n / 256 ^ k % 256 := ⟨_, by simp, rfl⟩
      rw [← gx, ← hq] at hstep
      have HST : Hid _ := hstep
      have HA : Hid _ := hA
      have hql : q < z + 9 := by omega
      clear hstep hA gx hq hlen
      go_wp2
      go_roundw
      case rel => exact ⟨k + 1, by omega, by go_num, by rw [HST.out, ← u8v_set]; exact Arr.set HA.out _ _, hBw.setCell (Nat.le_refl _) _⟩
      case measure => simp [intOf]; omega
    · obtain rfl : k = 8 := by omega
      rw [padAt_end] at hA
      have HA : Hid _ := hA
      clear hA hlt
      go_wp2
      go_ret
      have hl : z + 9 = (ShaMath.pad n).length := by rw [ShaMath.pad_len, ← HZ.out]; omega
      exact ⟨by rw [← hl]; rfl, arr_row HA.out, hBw⟩

end Go.Proofs.YtccnokolfjkgcaaGreatDoor

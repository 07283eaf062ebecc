/-
  FnShaWrite.
-/
import Derived.Test.YteockpllnhjooaaGreatDoorQC37
namespace Go.Proofs.YteockpllnhjooaaGreatDoor
open Go.RowKit NumMath
set_option maxRecDepth 100000
set_option linter.unusedVariables false
set_option linter.unusedSimpArgs false
attribute [-simp] Tryz.isAgg131 Tryz.zeroValue131 Tryz.isAgg116 Tryz.zeroValue116 Tryz.isAgg113 Tryz.zeroValue113 Tryz.isAgg118 Tryz.isAgg117

/-- The cells of a digest under way. -/
def hashL (s : ShaMath.St) (blk : List Nat) (n : Nat) : List Value := u32s s.list ++ (u8v blk ++ [.int .u64 (n : Int)])
/-- Block g is a digest of m under way. -/
def HashAt (w : World) (g : Nat) (m : List Nat) : Prop :=
  ∃ blk : List Nat, blk.length = 64 ∧ (∀ c ∈ blk, c < 256) ∧ blk.take (m.length % 64) = ShaMath.tail m ∧ Arr w g 118 (hashL (ShaMath.state m) blk m.length)

theorem zero51 : (Tryz.prog.info? 118).map (fun i => (i.zero, i.size)) = some (some (.agg (hashL ⟨0, 0, 0, 0, 0, 0, 0, 0⟩ (List.replicate 64 0) 0).toArray), 73) := by kernel_rfl

theorem wpList_build_is {ops : Array Oper} {rest : List Oper} {o : Oper} {a : Act} {w : World} {Q : Exit → Act → World → Prop} (hg : o.guard = none) (t : TypeId) (parts : Array (Nat × Operand)) (ho : o.op = .build t parts)
    (vs : List (Nat × Value)) (hv : (parts.map fun (i, x) => (i, a.eval x)).toList = vs) (cells : Array Value) (hb : Tryz.prog.built t vs = some cells)
    (h : wpList Tryz.prog ops Q rest (a.put o.dst (.agg cells)) w) : wpList Tryz.prog ops Q (o :: rest) a w :=
  wpList_build hg t parts ho (by rw [hv, hb]; rfl) (by rw [hv, hb]; exact h)

theorem new_any (w : World) (ht : Tabs w) :
    Calls Tryz.prog 42 #[] w fun e w' => e = .returned (.pointer (some ⟨w.heap.size, 0, none⟩)) ∧ HashAt w' w.heap.size [] ∧ Below w.heap.size w w' := by
  obtain ⟨z51, i51⟩ := zero_of_info zero51
  go_enter Tryz.func42, Tryz.ntmps42
  have HB : Hid (Tryz.prog.built 118 [(0, .agg (u32s ShaMath.init.list).toArray)] = some (hashL ShaMath.init (List.replicate 64 0) 0).toArray) := by show _ = _; kernel_rfl
  have HR : Hid (w.rangeAt 0 0 (u32s ShaMath.init.list)) := by
    intro j v hv
    have hj : j < 8 := by have := (List.getElem?_eq_some_iff.1 hv).1; simpa [u32s, list8] using this
    rw [Nat.zero_add, ht.first j hj]
    have : j < ShaMath.init.list.length := hj
    simp [u32s, this] at hv ⊢
    exact hv
  have HI : Hid ((u32s ShaMath.init.list).length = 8) := rfl
  have HF : Hid (HashAt (w.alloc (.cells (hashL ShaMath.init (List.replicate 64 0) 0).toArray 118)) w.heap.size []) := ⟨List.replicate 64 0, by simp, by intro c hc; have := List.eq_of_mem_replicate hc; omega, rfl, Arr.new w 118 _ rfl⟩
  obtain ⟨I, hI⟩ : ∃ I, I = u32s ShaMath.init.list := ⟨_, rfl⟩
  obtain ⟨J, hJ⟩ : ∃ J, J = hashL ShaMath.init (List.replicate 64 0) 0 := ⟨_, rfl⟩
  rw [← hI] at HB HR HI
  rw [← hJ] at HB HF
  clear hI hJ z51 i51 ht
  go_wp2_with (first
    | (refine wpList_load_mid rfl 113 (.global 0) rfl 0 0 rfl I (.array 8 112) HR.out Tryz.underlying113 rfl (by rw [HI.out]; exact size47) ?_)
    | ((refine wpList_build_is rfl 118 #[(0, .tmp 1)] rfl [(0, .agg I.toArray)] (by simp [Act.eval, Act.put]) J.toArray HB.out ?_)))
  go_ret
  exact ⟨rfl, HF.out, (Below.refl _ _).alloc (Nat.le_refl _) _⟩

theorem hashL_len (s : ShaMath.St) (blk : List Nat) (n : Nat) (h : blk.length = 64) : (hashL s blk n).length = 73 := by simp [hashL, u32s_len, u8v_len, list8, h]
theorem hashL_size (s : ShaMath.St) (blk : List Nat) (n : Nat) (h : blk.length = 64) : (hashL s blk n)[72]? = some (.int .u64 (n : Int)) := by
  unfold hashL
  rw [List.getElem?_append_right (by rw [u32s_len]; exact Nat.le_of_lt (by decide : 8 < 72)), List.getElem?_append_right (by rw [u32s_len, u8v_len, h]; exact Nat.le_refl 64), u32s_len, u8v_len, h]
  rfl
theorem hashL_set (s : ShaMath.St) (blk : List Nat) (n m : Nat) (h : blk.length = 64) : (hashL s blk n).set 72 (.int .u64 (m : Int)) = hashL s blk m := by
  unfold hashL
  rw [List.set_append_right _ _ (by rw [u32s_len]; exact Nat.le_of_lt (by decide : 8 < 72)), List.set_append_right _ _ (by rw [u32s_len, u8v_len, h]; exact Nat.le_refl 64), u32s_len, u8v_len, h]
  rfl

theorem hashL_splice (s : ShaMath.St) (blk cs : List Nat) (n r : Nat) (h : blk.length = 64) (hr : r + cs.length ≤ 64) :
    (hashL s blk n).take (8 + r) ++ u8v cs ++ (hashL s blk n).drop (8 + r + (u8v cs).length) = hashL s (blk.take r ++ cs ++ blk.drop (r + cs.length)) n := by
  have h8 : (u32s s.list).length = 8 := by rw [u32s_len]; rfl
  unfold hashL
  rw [u8v_len, List.take_append, List.drop_append, h8, List.take_of_length_le (by omega), List.drop_eq_nil_of_le (by omega), show 8 + r - 8 = r by omega, show 8 + r + cs.length - 8 = r + cs.length by omega,
    List.take_append_of_le_length (by rw [u8v_len]; omega), List.drop_append_of_le_length (by rw [u8v_len]; omega)]
  simp [u8v, List.map_take, List.map_drop]
theorem hashL_words (s s' : ShaMath.St) (blk : List Nat) (n : Nat) : (hashL s blk n).take 0 ++ u32s s'.list ++ (hashL s blk n).drop (0 + (u32s s'.list).length) = hashL s' blk n := by
  have h8 : (u32s s.list).length = 8 := by rw [u32s_len]; rfl
  have h8' : (u32s s'.list).length = 8 := by rw [u32s_len]; rfl
  unfold hashL
  rw [h8', List.take_zero, List.nil_append, Nat.zero_add, List.drop_append, h8, List.drop_eq_nil_of_le (by omega)]
  simp
/-- Cells into a part of a block that is known whole. -/
theorem wp_store_seg {op : Oper} {a : Act} {w : World} {K : Act → World → Prop} {Q : Exit → Act → World → Prop} (ty : TypeId) (x y : Operand) (ho : op.op = .store ty x y)
    (g o t : Nat) (l cs : List Value) (hx : a.eval x = .pointer (some ⟨g, o, none⟩)) (hy : a.eval y = .agg cs.toArray) (h : Arr w g t l)
    (hi : (Tryz.prog.info? ty).map (·.size) = some cs.length) (hfit : o + cs.length ≤ l.length) (h1 : ∀ v ∈ cs, v.oneCell' = true)
    (hk : K (a.put op.dst undef) (w.setRow g (l.take o ++ cs ++ l.drop (o + cs.length)).toArray)) : op.wp Tryz.prog a w K Q := by
  have hst := run_storeCells_at Tryz.prog g o t cs 0 l.toArray w h (by simpa using hfit) h1
  have hsv : (storeVar ty ⟨g, o, none⟩ (.agg cs.toArray)).run Tryz.prog w = .ok () (w.setRow g (l.take o ++ cs ++ l.drop (o + cs.length)).toArray) := by
    cases hq : Tryz.prog.info? ty with
    | none => simp [hq] at hi
    | some i =>
      have hs : cs.length = i.size := by simp [hq] at hi; omega
      simp only [Nat.add_zero] at hst
      simp [storeVar, sizeOf, typeInfo, hq, Value.cells, hs, hst]
  unfold Oper.wp execOp
  simp only [ho, hx, hy, Instr.storeAt, Instr.sureAddr, Sem.run_bind, Sem.run_pure, Result.andThen_ok, hsv]
  exact hk
theorem gr_setRow {w w' : World} {g : Nat} (h : w.grownBy w' (some g)) (c : Array Value) : w.grownBy (w'.setRow g c) (some g) :=
  ⟨h.os, h.tape, h.output, by rw [setRow_size]; exact h.size, fun k hk hne => by rw [setRow_other w' g k c (by intro e; exact hne (by rw [e]))]; exact h.block k hk hne⟩
theorem gr_setCell {w w' : World} {g i : Nat} (h : w.grownBy w' (some g)) (v : Value) : w.grownBy (w'.setCell ⟨g, i, none⟩ v) (some g) :=
  ⟨h.os, h.tape, h.output, by simpa using h.size, fun k hk hne => by rw [heap_setCell_other w' _ k v (by intro e; exact hne (by rw [e]))]; exact h.block k hk hne⟩
theorem gr_drew {w w' : World} {row : Option Nat} (h : w.grownBy w' row) : w.grownBy w'.drew row := ⟨h.os, h.tape, h.output, h.size, h.block⟩
theorem gr_below {w w' w'' : World} {row : Option Nat} (h : w.grownBy w' row) (hb : Below w'.heap.size w' w'') : w.grownBy w'' row :=
  ⟨hb.os.trans h.os, hb.tape.trans h.tape, hb.output.trans h.output, Nat.le_trans h.size hb.size, fun k hk hne => by rw [hb.block k (Nat.lt_of_lt_of_le hk h.size)]; exact h.block k hk hne⟩
theorem Tabs.grown {w w' : World} {g : Nat} (h : Tabs w) (hg : w.grownBy w' (some g)) (h2 : 2 < g) : Tabs w' := by
  have hlt := h.lt
  have hb : ∀ k, k ≤ 2 → w'.heap[k]? = w.heap[k]? := fun k hk => hg.block k (by omega) (by intro e; injection e; omega)
  exact ⟨fun i hi => by rw [World.cell?_of_block (w := w) (hb 0 (by omega))]; exact h.first i hi, fun i hi => by rw [World.cell?_of_block (w := w) (hb 2 (by omega))]; exact h.shaK i hi⟩

theorem hash_words {w : World} {g n : Nat} {s : ShaMath.St} {blk : List Nat} (h : Arr w g 118 (hashL s blk n)) : w.rangeAt g 0 (u32s s.list) := by
  intro j v hv
  rw [Nat.zero_add, h.cell j]
  unfold hashL
  rw [List.getElem?_append_left (List.getElem?_eq_some_iff.1 hv).1]; exact hv
theorem hash_block {w : World} {g n : Nat} {s : ShaMath.St} {blk : List Nat} (h : Arr w g 118 (hashL s blk n)) (hl : blk.length = 64) : w.rangeAt g 8 (u8v blk) := by
  intro j v hv
  rw [h.cell (8 + j)]
  unfold hashL
  have h8 : (u32s s.list).length = 8 := by rw [u32s_len]; rfl
  rw [List.getElem?_append_right (by omega), h8, show 8 + j - 8 = j by omega, List.getElem?_append_left (List.getElem?_eq_some_iff.1 hv).1]; exact hv

set_option maxHeartbeats 4000000 in
theorem write_any (g : Nat) (m : List Nat) (a : Option Addr) (zs : List Int) (cap : Nat) (w : World) (ht : Tabs w) (hg : 2 < g) (hh : HashAt w g m) (hr : Row .u8 w a zs) (hsep : 0 < zs.length → ∀ ad, a = some ad → ad.block ≠ g) (hb : ∀ c ∈ zs, 0 ≤ c ∧ c ≤ 255) (hc : zs.length ≤ cap) (hcm : cap ≤ maxLen)
    (hn : m.length + zs.length < 1152921504606846976) :
    Calls Tryz.prog 43 #[.pointer (some ⟨g, 0, none⟩), .slice a zs.length cap] w fun e w' => e = .returned (.tuple #[]) ∧ HashAt w' g (m ++ nats zs) ∧ w.grownBy w' (some g) := by
  unfold maxLen at hcm
  obtain ⟨L, hL⟩ : ∃ L, L = zs.length := ⟨_, rfl⟩
  rw [← hL] at hc hn ⊢
  have HL : Hid (L = zs.length) := hL
  clear hL
  go_enter Tryz.func43, Tryz.ntmps43
  go_wp2_with fail
  go_loopw [1] (fun v wr => ∃ (j : Nat) (ao : Option Addr), j ≤ L ∧ v = .slice ao (L - j) (cap - j) ∧ Row .u8 w ao (zs.drop j) ∧ (j < L → ∀ ad, ao = some ad → ad.block ≠ g) ∧ HashAt wr g (m ++ (nats zs).take j) ∧ w.grownBy wr (some g)) (fun v _ => (match v with | .slice _ n _ => n | _ => 0))
  case atStart => exact ⟨0, a, by omega, rfl, hr, (fun h => hsep (by have := HL.out; omega)), by simpa using hh, World.grownBy.refl _ _⟩
  case round =>
    obtain ⟨j, ao, hj, rfl, hr1, hsep1, ⟨blk, hbl, hbb, hbt, hA⟩, hgr⟩ := hrel
    clear hr hsep hh
    by_cases hlt : j < L
    · obtain ⟨M, hM⟩ : ∃ M, M = m ++ (nats zs).take j := ⟨_, rfl⟩
      rw [← hM] at hbt hA
      have hnl : (nats zs).length = L := by rw [HL.out]; simp [nats]
      have hMl : M.length = m.length + j := by rw [hM]; simp [hnl]; omega
      obtain ⟨n0, hn0⟩ : ∃ n0, n0 = M.length := ⟨_, rfl⟩
      rw [← hn0] at hbt hA hMl
      obtain ⟨r, hr0⟩ : ∃ r, r = n0 % 64 := ⟨_, rfl⟩
      have hr64 : r < 64 := by omega
      have hrI : (n0 : Int) % 64 = (r : Int) := by omega
      rw [← hr0] at hbt
      obtain ⟨p, hp⟩ : ∃ p, p = L - j := ⟨_, rfl⟩
      obtain ⟨c', hc'⟩ : ∃ c', c' = cap - j := ⟨_, rfl⟩
      obtain ⟨n, hn'⟩ : ∃ n, n = Nat.min p (64 - r) := ⟨_, rfl⟩
      have hnp : n ≤ p ∧ n ≤ 64 - r ∧ 0 < n ∧ (n = p ∨ n = 64 - r) := by
        have e : n = min p (64 - r) := hn'
        omega
      rw [← hp, ← hc']
      have hzd : (zs.drop j).length = p := by rw [List.length_drop, ← HL.out, hp]
      obtain ⟨b0, off, hao, hcl⟩ : ∃ b off, ao = some ⟨b, off, none⟩ ∧ ∀ i, i < (zs.drop j).length → w.cell? ⟨b, off + i, none⟩ = some (.int .u8 ((zs.drop j).getD i 0)) := by
        rcases hr1 with h | h
        · rw [h] at hzd; simp at hzd; omega
        · exact h
      subst hao
      have hsb : b0 ≠ g := hsep1 hlt _ rfl
      obtain ⟨cs, hcs⟩ : ∃ cs, cs = ((nats zs).drop j).take n := ⟨_, rfl⟩
      have hcsl : cs.length = n := by rw [hcs]; simp [hnl]; omega
      have hbn : ∀ c ∈ nats zs, c < 256 := nats_byte hb
      have hcsb : ∀ c ∈ cs, c < 256 := by intro c hc; rw [hcs] at hc; exact hbn c (List.mem_of_mem_drop (List.mem_of_mem_take hc))
      obtain ⟨blk', hblk'⟩ : ∃ blk', blk' = blk.take r ++ cs ++ blk.drop (r + cs.length) := ⟨_, rfl⟩
      have hbl' : blk'.length = 64 := by rw [hblk']; simp [hbl, hcsl]; omega
      have hbb' : ∀ c ∈ blk', c < 256 := by
        intro c hc; rw [hblk'] at hc
        rcases List.mem_append.1 hc with h | h
        · rcases List.mem_append.1 h with h | h
          · exact hbb c (List.mem_of_mem_take h)
          · exact hcsb c h
        · exact hbb c (List.mem_of_mem_drop h)
      have hcopy : (Builtin.copy_ #[48, 48] 3 #[.slice (some ⟨g, 8 + r, none⟩) (64 - r) (64 - r), .slice (some ⟨b0, off, none⟩) p c']).run Tryz.prog wr.drew = .ok (goInt n) (wr.drew.setRow g (hashL (ShaMath.state M) blk' n0).toArray) := by
        have hrun := run_copy_row (P := Tryz.prog) wr.drew 48 48 3 5 g (8 + r) (64 - r) (64 - r) ⟨b0, off, none⟩ p c' _ 118 (u8v cs) Tryz.underlying48 size5 (Arr.drew hA) (by rw [u8v_len, hcsl]; exact hn') ?_ (by rw [u8v_len, hcsl]; simp [hashL_len _ _ _ hbl]; omega) (u8v_one _)
        · rw [hrun, u8v_len, hcsl]
          have hsp := hashL_splice (ShaMath.state M) blk cs n0 r hbl (by omega)
          rw [u8v_len, hcsl] at hsp
          rw [hblk', hcsl, ← hsp]
        · intro i v hv
          have hi : i < cs.length := by simpa [u8v] using (List.getElem?_eq_some_iff.1 hv).1
          show wr.cell? _ = _
          rw [Addr.add_mid]
          have hgw : wr.cell? ⟨b0, off + i, none⟩ = w.cell? ⟨b0, off + i, none⟩ := World.cell?_of_block (w := w) (hgr.block b0 (World.block_lt_of_cell? w _ (hcl i (by omega))) (by intro e; injection e with e; exact hsb e))
          rw [hgw, hcl i (by omega)]
          have hi2 : i < ((nats zs).drop j).length := by rw [List.length_drop, hnl]; omega
          have hi3 : j + i < zs.length := by rw [← HL.out]; omega
          have : cs[i] = (zs[j + i]).toNat := by simp [hcs, nats]
          simp [u8v, hi] at hv
          rw [← hv, this]
          have hz := hb _ (List.getElem_mem hi3)
          simp [hi3]
          omega
      have c72 : wr.drew.cell? ⟨g, 72, none⟩ = some (.int .u64 (n0 : Int)) := by
        show wr.cell? _ = _
        rw [hA.cell 72]; exact hashL_size _ _ _ hbl
      have hA5 : Arr (wr.drew.setRow g (hashL (ShaMath.state M) blk' n0).toArray) g 118 (hashL (ShaMath.state M) blk' n0) := Arr.row (Arr.drew hA)
      have hg5 : w.grownBy (wr.drew.setRow g (hashL (ShaMath.state M) blk' n0).toArray) (some g) := gr_setRow (gr_drew hgr) _
      have HST : Hid (m ++ (nats zs).take (j + n) = M ++ cs) := by show _ = _; rw [hM, hcs, List.append_assoc, ← List.take_add]
      have HBT : Hid (blk'.take r = ShaMath.tail M ∧ blk' = ShaMath.tail M ++ cs ++ blk.drop (r + cs.length)) := by
        refine ⟨?_, by rw [hblk', hbt]⟩
        rw [hblk', List.append_assoc, List.take_append_of_le_length (by simp [hbl]; omega), List.take_take, Nat.min_self, hbt]
      obtain ⟨hnp1, hnp2, hnp3, hnp4⟩ := hnp
      have HBL : Hid _ := hbl
      have HBL' : Hid _ := hbl'
      have HCL : Hid _ := hcsl
      have HN0 : Hid _ := hn0
      have HR0 : Hid _ := hr0
      have HMl : Hid _ := hMl
      have HP : Hid _ := hp
      have HC' : Hid _ := hc'
      have HR1 : Hid _ := hr1
      have HNP4 : Hid _ := hnp4
      have hrT : (n0 : Int).tmod 64 = (r : Int) := by rw [Int.tmod_eq_emod_of_nonneg (by omega)]; exact hrI
      have hrne : ¬ 64 = r := by omega
      have hrI64 : (r : Int) ≤ 64 := by omega
      have hpI : (0 : Int) < (p : Int) := by omega
      have hc1 : p ≤ c' := by omega
      clear hbl hbl' hcsl hn0 hr0 hMl hp hc' hr1 hsep1 hM hnl hzd hcl hcs hblk' hbt hA hn' hnp4
      go_wp2_with fail
      refine wp_region_held_drew (S := fun w' => w'.cell? ⟨g, 72, none⟩ = some (.int .u64 (n0 : Int))) rfl c72 (fun hS => ?_)
      refine wpAnyH_take (i := 0) (v := ?_) rfl (by kernel_rfl) (by kernel_rfl) (by kernel_rfl) (fun _ _ _ h => h) (Or.inl ⟨by rfl, ?_⟩) hS ?_
      rotate_left 1
      · intro w hSw; (try dsimp only at hSw); go_simp <;> with_reducible rfl
      try simp only [List.getElem_toArray, List.getElem_cons_zero, List.getElem_cons_succ, Act.put, List.setIfInBounds_toArray, List.set_cons_zero, List.set_cons_succ]
      refine wpAnyH_take (i := 1) (v := ?_) rfl (by kernel_rfl) (by kernel_rfl) (by kernel_rfl) (fun _ _ _ h => h) (Or.inl ⟨by rfl, ?_⟩) hS ?_
      rotate_left 1
      · intro w hSw; (try dsimp only at hSw); go_simp <;> with_reducible rfl
      try simp only [List.getElem_toArray, List.getElem_cons_zero, List.getElem_cons_succ, Act.put, List.setIfInBounds_toArray, List.set_cons_zero, List.set_cons_succ]
      refine wpAnyH_take (i := 2) (v := ?_) rfl (by kernel_rfl) (by kernel_rfl) (by kernel_rfl) (fun _ _ _ h => h) (Or.inl ⟨by rfl, ?_⟩) hS ?_
      rotate_left 1
      · intro w hSw; (try dsimp only at hSw); go_simp <;> with_reducible rfl
      try simp only [List.getElem_toArray, List.getElem_cons_zero, List.getElem_cons_succ, Act.put, List.setIfInBounds_toArray, List.set_cons_zero, List.set_cons_succ]
      refine wpAnyH_take (i := 3) (v := ?_) rfl (by kernel_rfl) (by kernel_rfl) (by kernel_rfl) (fun _ _ _ h => h) (Or.inl ⟨by rfl, ?_⟩) hS ?_
      rotate_left 1
      · intro w hSw; (try dsimp only at hSw); go_simp <;> with_reducible rfl
      try simp only [List.getElem_toArray, List.getElem_cons_zero, List.getElem_cons_succ, Act.put, List.setIfInBounds_toArray, List.set_cons_zero, List.set_cons_succ]
      refine wpAnyH_take (i := 4) (v := ?_) rfl (by kernel_rfl) (by kernel_rfl) (by kernel_rfl) (fun _ _ _ h => h) (Or.inl ⟨by rfl, ?_⟩) hS ?_
      rotate_left 1
      · intro w hSw; (try dsimp only at hSw); go_simp <;> with_reducible rfl
      try simp only [List.getElem_toArray, List.getElem_cons_zero, List.getElem_cons_succ, Act.put, List.setIfInBounds_toArray, List.set_cons_zero, List.set_cons_succ]
      refine wpAnyH_take (i := 5) (v := ?_) rfl (by kernel_rfl) (by kernel_rfl) (by kernel_rfl) (fun _ _ _ h => h) (Or.inl ⟨by rfl, ?_⟩) hS ?_
      rotate_left 1
      · intro w hSw; (try dsimp only at hSw); go_simp <;> with_reducible rfl
      try simp only [List.getElem_toArray, List.getElem_cons_zero, List.getElem_cons_succ, Act.put, List.setIfInBounds_toArray, List.set_cons_zero, List.set_cons_succ]
      refine wpAnyH_take (i := 6) (v := ?_) rfl (by kernel_rfl) (by kernel_rfl) (by kernel_rfl) (fun _ _ _ h => h) (Or.inl ⟨by rfl, ?_⟩) hS ?_
      rotate_left 1
      · intro w hSw; (try dsimp only at hSw); go_simp <;> with_reducible rfl
      try simp only [List.getElem_toArray, List.getElem_cons_zero, List.getElem_cons_succ, Act.put, List.setIfInBounds_toArray, List.set_cons_zero, List.set_cons_succ]
      refine wpAnyH_take (i := 7) (v := ?_) rfl (by kernel_rfl) (by kernel_rfl) (by kernel_rfl) (fun _ _ _ h => h) (Or.inl ⟨by rfl, ?_⟩) hS ?_
      rotate_left 1
      · intro w hSw; (try dsimp only at hSw); go_simp <;> with_reducible rfl
      try simp only [List.getElem_toArray, List.getElem_cons_zero, List.getElem_cons_succ, Act.put, List.setIfInBounds_toArray, List.set_cons_zero, List.set_cons_succ]
      refine wpAnyH_take (i := 8) (v := ?_) rfl (by kernel_rfl) (by kernel_rfl) (by kernel_rfl) (fun _ _ _ h => h) (Or.inl ⟨by rfl, ?_⟩) hS ?_
      rotate_left 1
      · intro w hSw; (try dsimp only at hSw); go_simp <;> with_reducible rfl
      try simp only [List.getElem_toArray, List.getElem_cons_zero, List.getElem_cons_succ, Act.put, List.setIfInBounds_toArray, List.set_cons_zero, List.set_cons_succ]
      refine wpAnyH_take (i := 9) (v := ?_) rfl (by kernel_rfl) (by kernel_rfl) (by kernel_rfl) (fun _ _ _ h => h) (Or.inl ⟨by rfl, ?_⟩) hS ?_
      rotate_left 1
      · intro w hSw; (try dsimp only at hSw); go_simp <;> with_reducible rfl
      try simp only [List.getElem_toArray, List.getElem_cons_zero, List.getElem_cons_succ, Act.put, List.setIfInBounds_toArray, List.set_cons_zero, List.set_cons_succ]
      refine wpAnyH_ready (rs := [10]) (by kernel_rfl) (by simp) ?_
      refine AllReadyH.cons rfl (fun K hK => ?_) AllReadyH.nil
      go_simp
      refine hK.out _ _ ?_ (fun hS => ?_)
      · rw [hA5.cell 72]; exact hashL_size _ _ _ HBL'.out
      clear hK K
      try simp only [List.getElem_toArray, List.getElem_cons_zero, List.getElem_cons_succ, Act.put, List.setIfInBounds_toArray, List.set_cons_zero, List.set_cons_succ]
      refine wpAnyH_take (i := 11) (v := ?_) rfl (by kernel_rfl) (by kernel_rfl) (by kernel_rfl) (fun _ _ _ h => h) (Or.inl ⟨by rfl, ?_⟩) hS ?_
      rotate_left 1
      · intro w hSw; (try dsimp only at hSw); go_simp <;> with_reducible rfl
      try simp only [List.getElem_toArray, List.getElem_cons_zero, List.getElem_cons_succ, Act.put, List.setIfInBounds_toArray, List.set_cons_zero, List.set_cons_succ]
      refine wpAnyH_done (by kernel_rfl) ?_ _
      clear hcopy c72
      have f72 := hA5.frozen 72
      generalize (wr.drew.setRow g (hashL (ShaMath.state M) blk' n0).toArray) = w5 at *
      obtain ⟨n1, hn1, hn1'⟩ : ∃ n1 : Nat, (n0 : Int) + (n : Int) = (n1 : Int) ∧ n1 = n0 + n := ⟨n0 + n, by omega, rfl⟩
      have hn1l : n1 < 1152921504606846976 := by have := HMl.out; have := HP.out; omega
      have HA6 : Hid (Arr (w5.setCell ⟨g, 72, none⟩ (.int .u64 (n1 : Int))) g 118 (hashL (ShaMath.state M) blk' n1)) := by
        have := hA5.set 72 (.int .u64 (n1 : Int))
        rw [hashL_set _ _ _ _ HBL'.out] at this
        exact this
      have HG6 : Hid (w.grownBy (w5.setCell ⟨g, 72, none⟩ (.int .u64 (n1 : Int))) (some g)) := gr_setCell hg5 _
      have hRow : ∀ ao' : Option Addr, (¬ c' = n → ao' = some ⟨b0, off + n, none⟩) → Row .u8 w ao' (zs.drop (j + n)) := by
        intro ao' hao'
        have h1 : Row .u8 w (some ⟨b0, off, none⟩) ((zs.drop j).take n ++ zs.drop (j + n)) := by
          rw [← List.drop_drop, List.take_append_drop]; exact HR1.out
        have hlz := HL.out
        have hpz := HP.out
        refine Row.rest h1 (m := n) (c := c') ?_ ?_ hao'
        · rw [List.length_take, List.length_drop]; omega
        · rw [← List.drop_drop, List.take_append_drop, List.length_drop]; omega
      have HRW : Hid _ := hRow
      have HN1 : Hid _ := hn1'
      have hnI : (n : Int) ≤ (p : Int) := by omega
      have hnI0 : (0 : Int) ≤ (n : Int) := by omega
      have hcI : (n : Int) ≤ (c' : Int) := by omega
      clear hRow hA5 hg5 hgr hn1'
      by_cases hfull : n = 64 - r
      · have hmod : (n1 : Int) % 64 = 0 := by have := HN1.out; omega
        have hmodT : (n1 : Int).tmod 64 = 0 := by rw [Int.tmod_eq_emod_of_nonneg (by omega)]; exact hmod
        have hf1 : 64 - r ≤ n := by omega
        clear hfull
        by_cases hcap : c' = n
        · have HCAP : Hid _ := hcap
          go_wp2_with fail
          generalize HW6 : w5.setCell ⟨g, 72, none⟩ (.int .u64 (n1 : Int)) = w6 at *
          have HW6' : Hid _ := HW6
          clear HW6 f72 hS
          refine wp_region_held_drew (S := fun w' => w'.rangeAt g 8 (u8v blk')) rfl (hash_block (Arr.drew HA6.out) HBL'.out) (fun hS => ?_)
          refine wpAnyH_take (i := 0) (v := ?_) rfl (by kernel_rfl) (by kernel_rfl) (by kernel_rfl) (fun _ _ _ h => h) (Or.inl ⟨by rfl, ?_⟩) hS ?_
          rotate_left 1
          · intro w hSw; (try dsimp only at hSw); go_simp <;> with_reducible rfl
          try simp only [List.getElem_toArray, List.getElem_cons_zero, List.getElem_cons_succ, Act.put, List.setIfInBounds_toArray, List.set_cons_zero, List.set_cons_succ]
          refine wpAnyH_take (i := 1) (v := ?_) rfl (by kernel_rfl) (by kernel_rfl) (by kernel_rfl) (fun _ _ _ h => h) (Or.inl ⟨by rfl, ?_⟩) hS ?_
          rotate_left 1
          · intro w hSw; (try dsimp only at hSw); go_simp <;> with_reducible rfl
          try simp only [List.getElem_toArray, List.getElem_cons_zero, List.getElem_cons_succ, Act.put, List.setIfInBounds_toArray, List.set_cons_zero, List.set_cons_succ]
          refine wpAnyH_take (i := 2) (v := ?_) rfl (by kernel_rfl) (by kernel_rfl) (by kernel_rfl) (fun _ _ _ h => h) (Or.inl ⟨by rfl, ?_⟩) hS ?_
          rotate_left 1
          · intro w hSw; (try dsimp only at hSw); go_simp <;> with_reducible rfl
          try simp only [List.getElem_toArray, List.getElem_cons_zero, List.getElem_cons_succ, Act.put, List.setIfInBounds_toArray, List.set_cons_zero, List.set_cons_succ]
          refine wpAnyH_take (i := 3) (v := ?_) rfl (by kernel_rfl) (by kernel_rfl) (by kernel_rfl) (fun _ _ _ h => h) (Or.inl ⟨by rfl, ?_⟩) hS ?_
          rotate_left 1
          · intro w hSw; (try dsimp only at hSw); go_simp <;> with_reducible rfl
          try simp only [List.getElem_toArray, List.getElem_cons_zero, List.getElem_cons_succ, Act.put, List.setIfInBounds_toArray, List.set_cons_zero, List.set_cons_succ]
          refine wpAnyH_take (i := 5) (v := ?_) rfl (by kernel_rfl) (by kernel_rfl) (by kernel_rfl) (fun _ _ _ h => h) (Or.inl ⟨by rfl, ?_⟩) hS ?_
          rotate_left 1
          · intro w hSw; (try dsimp only at hSw); go_simp <;> with_reducible rfl
          try simp only [List.getElem_toArray, List.getElem_cons_zero, List.getElem_cons_succ, Act.put, List.setIfInBounds_toArray, List.set_cons_zero, List.set_cons_succ]
          refine wpAnyH_take (i := 6) (v := ?_) rfl (by kernel_rfl) (by kernel_rfl) (by kernel_rfl) (fun _ _ _ h => h) (Or.inl ⟨by rfl, ?_⟩) hS ?_
          rotate_left 1
          · intro w hSw; (try dsimp only at hSw); go_simp <;> with_reducible rfl
          try simp only [List.getElem_toArray, List.getElem_cons_zero, List.getElem_cons_succ, Act.put, List.setIfInBounds_toArray, List.set_cons_zero, List.set_cons_succ]
          refine wpAnyH_take (i := 7) (v := ?_) rfl (by kernel_rfl) (by kernel_rfl) (by kernel_rfl) (fun _ _ _ h => h) (Or.inl ⟨by rfl, ?_⟩) hS ?_
          rotate_left 1
          · intro w hSw; (try dsimp only at hSw); go_simp <;> with_reducible rfl
          try simp only [List.getElem_toArray, List.getElem_cons_zero, List.getElem_cons_succ, Act.put, List.setIfInBounds_toArray, List.set_cons_zero, List.set_cons_succ]
          refine wpAnyH_take (i := 8) (v := _) rfl (by kernel_rfl) (by kernel_rfl) (by kernel_rfl) (fun _ _ _ h => h) (yieldsIf_load_mid (by rfl) 116 (.tmp 44) rfl g 8 rfl (u8v blk') (.array 64 5) (fun _ h => h) Tryz.underlying116 rfl (by rw [u8v_len, HBL'.out]; exact size49)) hS ?_
          try simp only [List.getElem_toArray, List.getElem_cons_zero, List.getElem_cons_succ, Act.put, List.setIfInBounds_toArray, List.set_cons_zero, List.set_cons_succ]
          refine wpAnyH_ready (rs := [4]) (by kernel_rfl) (by simp) ?_
          refine AllReadyH.cons rfl (fun K hK => ?_) AllReadyH.nil
          rw [if_pos (by rfl)]
          refine wp_load_mid 113 (.tmp 40) rfl g 0 rfl (u32s (ShaMath.state M).list) (.array 8 112) (hash_words (Arr.drew HA6.out)) Tryz.underlying113 rfl (by rw [u32s_len]; exact size47) ?_
          refine hK.out _ _ hS (fun hS => ?_)
          clear hK K
          try simp only [List.getElem_toArray, List.getElem_cons_zero, List.getElem_cons_succ, Act.put, List.setIfInBounds_toArray, List.set_cons_zero, List.set_cons_succ]
          refine wpAnyH_ready (rs := [9]) (by kernel_rfl) (by simp) ?_
          refine AllReadyH.cons rfl (fun K hK => ?_) AllReadyH.nil
          go_simp
          refine Calls.mono (stirred_any (ShaMath.state M) blk' w6.drew (Tabs.grown ht (gr_drew HG6.out) hg) (ShaMath.state_ok M) HBL'.out hbb') ?_
          rintro e w7 ⟨rfl, hB7⟩
          have HA7 : Hid (Arr w7 g 118 (hashL (ShaMath.state M) blk' n1)) := Arr.later (Arr.drew HA6.out) hB7 (Arr.lt (Arr.drew HA6.out))
          have HG7 : Hid (w.grownBy w7 (some g)) := gr_below (gr_drew HG6.out) hB7
          refine hK.out _ _ (hash_block HA7.out HBL'.out) (fun hS => ?_)
          clear hK K hB7
          try simp only [List.getElem_toArray, List.getElem_cons_zero, List.getElem_cons_succ, Act.put, List.setIfInBounds_toArray, List.set_cons_zero, List.set_cons_succ]
          refine wpAnyH_take (i := 10) (v := ?_) rfl (by kernel_rfl) (by kernel_rfl) (by kernel_rfl) (fun _ _ _ h => h) (Or.inl ⟨by rfl, ?_⟩) hS ?_
          rotate_left 1
          · intro w hSw; (try dsimp only at hSw); go_simp <;> with_reducible rfl
          try simp only [List.getElem_toArray, List.getElem_cons_zero, List.getElem_cons_succ, Act.put, List.setIfInBounds_toArray, List.set_cons_zero, List.set_cons_succ]
          refine wpAnyH_take (i := 11) (v := ?_) rfl (by kernel_rfl) (by kernel_rfl) (by kernel_rfl) (fun _ _ _ h => h) (Or.inl ⟨by rfl, ?_⟩) hS ?_
          rotate_left 1
          · intro w hSw; (try dsimp only at hSw); go_simp <;> with_reducible rfl
          try simp only [List.getElem_toArray, List.getElem_cons_zero, List.getElem_cons_succ, Act.put, List.setIfInBounds_toArray, List.set_cons_zero, List.set_cons_succ]
          refine wpAnyH_ready (rs := [12]) (by kernel_rfl) (by simp) ?_
          refine AllReadyH.cons rfl (fun K hK => ?_) AllReadyH.nil
          rw [if_pos (by rfl)]
          have HA8 : Hid (Arr (w7.setRow g (hashL (ShaMath.comp (ShaMath.state M) blk') blk' n1).toArray) g 118 (hashL (ShaMath.comp (ShaMath.state M) blk') blk' n1)) := Arr.row HA7.out
          have HG8 : Hid (w.grownBy (w7.setRow g (hashL (ShaMath.comp (ShaMath.state M) blk') blk' n1).toArray) (some g)) := gr_setRow HG7.out _
          refine wp_store_seg 113 (.tmp 48) (.tmp 46) rfl g 0 118 _ (u32s (ShaMath.comp (ShaMath.state M) blk').list) rfl rfl HA7.out (by rw [u32s_len]; exact size47) (by rw [u32s_len, hashL_len _ _ _ HBL'.out]; exact Nat.le_of_lt (by decide : 0 + 8 < 73)) (u32s_one _) ?_
          rw [hashL_words]
          refine hK.out _ _ (hash_block HA8.out HBL'.out) (fun hS => ?_)
          clear hK K hS
          try simp only [List.getElem_toArray, List.getElem_cons_zero, List.getElem_cons_succ, Act.put, List.setIfInBounds_toArray, List.set_cons_zero, List.set_cons_succ]
          refine wpAnyH_done (by kernel_rfl) ?_ _
          have HB8 : Hid (ShaMath.state (M ++ cs) = ShaMath.comp (ShaMath.state M) blk' ∧ ShaMath.tail (M ++ cs) = []) := by
            have hcl := HCL.out
            have := ShaMath.state_full M cs (by rw [← HN0.out, ← HR0.out]; omega)
            rw [HBT.out.2, List.drop_eq_nil_of_le (by rw [HBL.out]; omega), List.append_nil]
            exact this
          generalize (w7.setRow g (hashL (ShaMath.comp (ShaMath.state M) blk') blk' n1).toArray) = w8 at *
          go_wp2
          go_roundw
          case rel =>
            have hLn := HP.out
            have hC := HC'.out
            refine ⟨j + n, some ⟨b0, off, none⟩, by omega, ?_, HRW.out _ (fun h => absurd HCAP.out h), (fun _ ad h => by injection h with h; rw [← h]; exact hsb), ?_, HG8.out⟩
            · rw [show L - (j + n) = p - n by omega, show cap - (j + n) = c' - n by omega]; rw [show c' - n = 0 by have := HCAP.out; omega]
            · rw [HST.out]
              refine ⟨blk', HBL'.out, hbb', ?_, ?_⟩
              · rw [HB8.out.2, List.length_append, ← HN0.out, HCL.out, show (n0 + n) % 64 = 0 by have := HR0.out; omega]; rfl
              · rw [HB8.out.1, List.length_append, ← HN0.out, HCL.out, ← HN1.out]; exact HA8.out
          case measure => show p - n < p; omega
        · have HCAP : Hid _ := hcap
          go_wp2_with fail
          generalize HW6 : w5.setCell ⟨g, 72, none⟩ (.int .u64 (n1 : Int)) = w6 at *
          have HW6' : Hid _ := HW6
          clear HW6 f72 hS
          refine wp_region_held_drew (S := fun w' => w'.rangeAt g 8 (u8v blk')) rfl (hash_block (Arr.drew HA6.out) HBL'.out) (fun hS => ?_)
          refine wpAnyH_take (i := 0) (v := ?_) rfl (by kernel_rfl) (by kernel_rfl) (by kernel_rfl) (fun _ _ _ h => h) (Or.inl ⟨by rfl, ?_⟩) hS ?_
          rotate_left 1
          · intro w hSw; (try dsimp only at hSw); go_simp <;> with_reducible rfl
          try simp only [List.getElem_toArray, List.getElem_cons_zero, List.getElem_cons_succ, Act.put, List.setIfInBounds_toArray, List.set_cons_zero, List.set_cons_succ]
          refine wpAnyH_take (i := 1) (v := ?_) rfl (by kernel_rfl) (by kernel_rfl) (by kernel_rfl) (fun _ _ _ h => h) (Or.inl ⟨by rfl, ?_⟩) hS ?_
          rotate_left 1
          · intro w hSw; (try dsimp only at hSw); go_simp <;> with_reducible rfl
          try simp only [List.getElem_toArray, List.getElem_cons_zero, List.getElem_cons_succ, Act.put, List.setIfInBounds_toArray, List.set_cons_zero, List.set_cons_succ]
          refine wpAnyH_take (i := 2) (v := ?_) rfl (by kernel_rfl) (by kernel_rfl) (by kernel_rfl) (fun _ _ _ h => h) (Or.inl ⟨by rfl, ?_⟩) hS ?_
          rotate_left 1
          · intro w hSw; (try dsimp only at hSw); go_simp <;> with_reducible rfl
          try simp only [List.getElem_toArray, List.getElem_cons_zero, List.getElem_cons_succ, Act.put, List.setIfInBounds_toArray, List.set_cons_zero, List.set_cons_succ]
          refine wpAnyH_take (i := 3) (v := ?_) rfl (by kernel_rfl) (by kernel_rfl) (by kernel_rfl) (fun _ _ _ h => h) (Or.inl ⟨by rfl, ?_⟩) hS ?_
          rotate_left 1
          · intro w hSw; (try dsimp only at hSw); go_simp <;> with_reducible rfl
          try simp only [List.getElem_toArray, List.getElem_cons_zero, List.getElem_cons_succ, Act.put, List.setIfInBounds_toArray, List.set_cons_zero, List.set_cons_succ]
          refine wpAnyH_take (i := 5) (v := ?_) rfl (by kernel_rfl) (by kernel_rfl) (by kernel_rfl) (fun _ _ _ h => h) (Or.inl ⟨by rfl, ?_⟩) hS ?_
          rotate_left 1
          · intro w hSw; (try dsimp only at hSw); go_simp <;> with_reducible rfl
          try simp only [List.getElem_toArray, List.getElem_cons_zero, List.getElem_cons_succ, Act.put, List.setIfInBounds_toArray, List.set_cons_zero, List.set_cons_succ]
          refine wpAnyH_take (i := 6) (v := ?_) rfl (by kernel_rfl) (by kernel_rfl) (by kernel_rfl) (fun _ _ _ h => h) (Or.inl ⟨by rfl, ?_⟩) hS ?_
          rotate_left 1
          · intro w hSw; (try dsimp only at hSw); go_simp <;> with_reducible rfl
          try simp only [List.getElem_toArray, List.getElem_cons_zero, List.getElem_cons_succ, Act.put, List.setIfInBounds_toArray, List.set_cons_zero, List.set_cons_succ]
          refine wpAnyH_take (i := 7) (v := ?_) rfl (by kernel_rfl) (by kernel_rfl) (by kernel_rfl) (fun _ _ _ h => h) (Or.inl ⟨by rfl, ?_⟩) hS ?_
          rotate_left 1
          · intro w hSw; (try dsimp only at hSw); go_simp <;> with_reducible rfl
          try simp only [List.getElem_toArray, List.getElem_cons_zero, List.getElem_cons_succ, Act.put, List.setIfInBounds_toArray, List.set_cons_zero, List.set_cons_succ]
          refine wpAnyH_take (i := 8) (v := _) rfl (by kernel_rfl) (by kernel_rfl) (by kernel_rfl) (fun _ _ _ h => h) (yieldsIf_load_mid (by rfl) 116 (.tmp 44) rfl g 8 rfl (u8v blk') (.array 64 5) (fun _ h => h) Tryz.underlying116 rfl (by rw [u8v_len, HBL'.out]; exact size49)) hS ?_
          try simp only [List.getElem_toArray, List.getElem_cons_zero, List.getElem_cons_succ, Act.put, List.setIfInBounds_toArray, List.set_cons_zero, List.set_cons_succ]
          refine wpAnyH_ready (rs := [4]) (by kernel_rfl) (by simp) ?_
          refine AllReadyH.cons rfl (fun K hK => ?_) AllReadyH.nil
          rw [if_pos (by rfl)]
          refine wp_load_mid 113 (.tmp 40) rfl g 0 rfl (u32s (ShaMath.state M).list) (.array 8 112) (hash_words (Arr.drew HA6.out)) Tryz.underlying113 rfl (by rw [u32s_len]; exact size47) ?_
          refine hK.out _ _ hS (fun hS => ?_)
          clear hK K
          try simp only [List.getElem_toArray, List.getElem_cons_zero, List.getElem_cons_succ, Act.put, List.setIfInBounds_toArray, List.set_cons_zero, List.set_cons_succ]
          refine wpAnyH_ready (rs := [9]) (by kernel_rfl) (by simp) ?_
          refine AllReadyH.cons rfl (fun K hK => ?_) AllReadyH.nil
          go_simp
          refine Calls.mono (stirred_any (ShaMath.state M) blk' w6.drew (Tabs.grown ht (gr_drew HG6.out) hg) (ShaMath.state_ok M) HBL'.out hbb') ?_
          rintro e w7 ⟨rfl, hB7⟩
          have HA7 : Hid (Arr w7 g 118 (hashL (ShaMath.state M) blk' n1)) := Arr.later (Arr.drew HA6.out) hB7 (Arr.lt (Arr.drew HA6.out))
          have HG7 : Hid (w.grownBy w7 (some g)) := gr_below (gr_drew HG6.out) hB7
          refine hK.out _ _ (hash_block HA7.out HBL'.out) (fun hS => ?_)
          clear hK K hB7
          try simp only [List.getElem_toArray, List.getElem_cons_zero, List.getElem_cons_succ, Act.put, List.setIfInBounds_toArray, List.set_cons_zero, List.set_cons_succ]
          refine wpAnyH_take (i := 10) (v := ?_) rfl (by kernel_rfl) (by kernel_rfl) (by kernel_rfl) (fun _ _ _ h => h) (Or.inl ⟨by rfl, ?_⟩) hS ?_
          rotate_left 1
          · intro w hSw; (try dsimp only at hSw); go_simp <;> with_reducible rfl
          try simp only [List.getElem_toArray, List.getElem_cons_zero, List.getElem_cons_succ, Act.put, List.setIfInBounds_toArray, List.set_cons_zero, List.set_cons_succ]
          refine wpAnyH_take (i := 11) (v := ?_) rfl (by kernel_rfl) (by kernel_rfl) (by kernel_rfl) (fun _ _ _ h => h) (Or.inl ⟨by rfl, ?_⟩) hS ?_
          rotate_left 1
          · intro w hSw; (try dsimp only at hSw); go_simp <;> with_reducible rfl
          try simp only [List.getElem_toArray, List.getElem_cons_zero, List.getElem_cons_succ, Act.put, List.setIfInBounds_toArray, List.set_cons_zero, List.set_cons_succ]
          refine wpAnyH_ready (rs := [12]) (by kernel_rfl) (by simp) ?_
          refine AllReadyH.cons rfl (fun K hK => ?_) AllReadyH.nil
          rw [if_pos (by rfl)]
          have HA8 : Hid (Arr (w7.setRow g (hashL (ShaMath.comp (ShaMath.state M) blk') blk' n1).toArray) g 118 (hashL (ShaMath.comp (ShaMath.state M) blk') blk' n1)) := Arr.row HA7.out
          have HG8 : Hid (w.grownBy (w7.setRow g (hashL (ShaMath.comp (ShaMath.state M) blk') blk' n1).toArray) (some g)) := gr_setRow HG7.out _
          refine wp_store_seg 113 (.tmp 48) (.tmp 46) rfl g 0 118 _ (u32s (ShaMath.comp (ShaMath.state M) blk').list) rfl rfl HA7.out (by rw [u32s_len]; exact size47) (by rw [u32s_len, hashL_len _ _ _ HBL'.out]; exact Nat.le_of_lt (by decide : 0 + 8 < 73)) (u32s_one _) ?_
          rw [hashL_words]
          refine hK.out _ _ (hash_block HA8.out HBL'.out) (fun hS => ?_)
          clear hK K hS
          try simp only [List.getElem_toArray, List.getElem_cons_zero, List.getElem_cons_succ, Act.put, List.setIfInBounds_toArray, List.set_cons_zero, List.set_cons_succ]
          refine wpAnyH_done (by kernel_rfl) ?_ _
          have HB8 : Hid (ShaMath.state (M ++ cs) = ShaMath.comp (ShaMath.state M) blk' ∧ ShaMath.tail (M ++ cs) = []) := by
            have hcl := HCL.out
            have := ShaMath.state_full M cs (by rw [← HN0.out, ← HR0.out]; omega)
            rw [HBT.out.2, List.drop_eq_nil_of_le (by rw [HBL.out]; omega), List.append_nil]
            exact this
          generalize (w7.setRow g (hashL (ShaMath.comp (ShaMath.state M) blk') blk' n1).toArray) = w8 at *
          go_wp2
          go_roundw
          case rel =>
            have hLn := HP.out
            have hC := HC'.out
            refine ⟨j + n, some ⟨b0, off + n, none⟩, by omega, ?_, HRW.out _ (fun _ => rfl), (fun _ ad h => by injection h with h; rw [← h]; exact hsb), ?_, HG8.out⟩
            · rw [show L - (j + n) = p - n by omega, show cap - (j + n) = c' - n by omega]
            · rw [HST.out]
              refine ⟨blk', HBL'.out, hbb', ?_, ?_⟩
              · rw [HB8.out.2, List.length_append, ← HN0.out, HCL.out, show (n0 + n) % 64 = 0 by have := HR0.out; omega]; rfl
              · rw [HB8.out.1, List.length_append, ← HN0.out, HCL.out, ← HN1.out]; exact HA8.out
          case measure => show p - n < p; omega
      · have hmod : (n1 : Int) % 64 = ((r + n : Nat) : Int) := by have := HN1.out; have := HR0.out; omega
        have hmodT : (n1 : Int).tmod 64 = ((r + n : Nat) : Int) := by rw [Int.tmod_eq_emod_of_nonneg (by omega)]; exact hmod
        have hne : (((r + n : Nat) : Int) == 0) = false := by simp; omega
        have hf1 : n < 64 - r := by omega
        clear hfull
        by_cases hcap : c' = n
        · have HCAP : Hid _ := hcap
          go_wp2
          go_roundw
          case rel =>
            have hLn := HP.out
            have hC := HC'.out
            have hcl := HCL.out
            have hn0 := HN0.out
            have hr0 := HR0.out
            have hss := ShaMath.state_stay M cs (by rw [← hn0, ← hr0]; omega)
            refine ⟨j + n, some ⟨b0, off, none⟩, by omega, ?_, HRW.out _ (fun h => absurd HCAP.out h), (fun _ ad h => by injection h with h; rw [← h]; exact hsb), ?_, HG6.out⟩
            · rw [show L - (j + n) = p - n by omega, show cap - (j + n) = c' - n by omega]; rw [show c' - n = 0 by have := HCAP.out; omega]
            · rw [HST.out]
              have hml : (M ++ cs).length = n1 := by rw [List.length_append, ← hn0, hcl, ← HN1.out]
              refine ⟨blk', HBL'.out, hbb', ?_, ?_⟩
              · rw [hml, hss.2, show n1 % 64 = r + n by have := HN1.out; omega, HBT.out.2, List.take_append_of_le_length (by rw [List.length_append, ShaMath.tail_len, ← hn0, ← hr0, hcl]; omega), List.take_of_length_le (by rw [List.length_append, ShaMath.tail_len, ← hn0, ← hr0, hcl]; omega)]
              · rw [hml, hss.1]; exact HA6.out
          case measure => show p - n < p; omega
        · have HCAP : Hid _ := hcap
          go_wp2
          go_roundw
          case rel =>
            have hLn := HP.out
            have hC := HC'.out
            have hcl := HCL.out
            have hn0 := HN0.out
            have hr0 := HR0.out
            have hss := ShaMath.state_stay M cs (by rw [← hn0, ← hr0]; omega)
            refine ⟨j + n, some ⟨b0, off + n, none⟩, by omega, ?_, HRW.out _ (fun _ => rfl), (fun _ ad h => by injection h with h; rw [← h]; exact hsb), ?_, HG6.out⟩
            · rw [show L - (j + n) = p - n by omega, show cap - (j + n) = c' - n by omega]
            · rw [HST.out]
              have hml : (M ++ cs).length = n1 := by rw [List.length_append, ← hn0, hcl, ← HN1.out]
              refine ⟨blk', HBL'.out, hbb', ?_, ?_⟩
              · rw [hml, hss.2, show n1 % 64 = r + n by have := HN1.out; omega, HBT.out.2, List.take_append_of_le_length (by rw [List.length_append, ShaMath.tail_len, ← hn0, ← hr0, hcl]; omega), List.take_of_length_le (by rw [List.length_append, ShaMath.tail_len, ← hn0, ← hr0, hcl]; omega)]
              · rw [hml, hss.1]; exact HA6.out
          case measure => show p - n < p; omega
    · obtain rfl : j = L := by omega
      have e0 : j - j = 0 := by omega
      rw [e0]
      go_wp2
      refine ⟨rfl, .tuple #[], by simp [results, Tryz.results12], rfl, ?_, hgr⟩
      have hnl : (nats zs).length = j := by rw [HL.out]; simp [nats]
      have hta : (nats zs).take j = nats zs := List.take_of_length_le (by omega)
      rw [hta] at hbt hA
      exact ⟨blk, hbl, hbb, hbt, hA⟩

end Go.Proofs.YteockpllnhjooaaGreatDoor

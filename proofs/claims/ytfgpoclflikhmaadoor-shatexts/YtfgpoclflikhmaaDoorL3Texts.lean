/-
  Walk of newsreellaw3.ShaTexts.
-/
import Derived.Test.YtfgpoclflikhmaaDoorL3Known
import Derived.Test.YtfgpoclflikhmaaDoorFnRefShaText
import Derived.Test.YtfgpoclflikhmaaDoorFnRefShaParse
import Derived.Lib.ConvBytes
namespace Go.Proofs.YtfgpoclflikhmaaDoor
open Go.RowKit NumMath
set_option maxRecDepth 100000
set_option linter.unusedVariables false
set_option linter.unusedSimpArgs false
attribute [-simp] Tryd.isAgg49 Tryd.zeroValue49 Tryd.isAgg26 Tryd.zeroValue26 Tryd.isAgg51

theorem run_slice_strN0 {w : World} (l : List Nat) (k2 : IntKind) (j : Nat) (h2 : j ≤ l.length) :
    (Instr.sliceAt 9 (.string (strN l)) none (some (.int k2 (j : Int))) none).run Tryd.prog w = .ok (.string (strN (l.take j))) w := by
  rw [run_sliceAt_string w 9 _ _ _ _ Tryd.underlying9]
  have e : strN (l.take j) = (strN l).extract 0 j := by rw [strN_extract]; simp
  rw [e]
  simp [Instr.slice, run_underlying Tryd.underlying9, Instr.sliceBounds, run_sliceBound, strN_size, h2]
theorem yields_slice0 {ops : Array Oper} {S : World → Prop} {op : Oper} {a : Act} (hw : Region.wanted op (yielded ops a.tmps) = true) (x j : Operand) (ho : op.op = .slice 9 x none (some j) none) (l : List Nat) (hx : a.eval x = .string (strN l)) (k2 : IntKind) (q : Nat) (hj : a.eval j = .int k2 (q : Int)) (h2 : q ≤ l.length) :
    YieldsIf Tryd.prog ops S op (.string (strN (l.take q))) a :=
  .inl ⟨hw, fun w _ => by
    unfold execOp
    simp only [ho, hx, Option.map, hj, Sem.run_bind, Sem.run_pure, Result.andThen_ok, run_slice_strN0 l k2 q h2]⟩
theorem yields_cat {ops : Array Oper} {S : World → Prop} {op : Oper} {a : Act} (hw : Region.wanted op (yielded ops a.tmps) = true) (x y : Operand) (ho : op.op = .binOp .add 9 x y 9) (l m : List Nat) (hx : a.eval x = .string (strN l)) (hy : a.eval y = .string (strN m)) (h : l.length + m.length ≤ 9223372036854775807) :
    YieldsIf Tryd.prog ops S op (.string (strN (l ++ m))) a :=
  .inl ⟨hw, fun w _ => by
    have hr := run_string_add_sum (P := Tryd.prog) (w := w) (strN l) (strN m) (by rw [strN_size, strN_size]; exact h)
    unfold execOp
    simp only [ho, hx, hy]
    simp [go_sem, binOp_string_add, Sem.run_bind, hr, strN_append]⟩
theorem yields_conv {ops : Array Oper} {S : World → Prop} {op : Oper} {a : Act} (hw : Region.wanted op (yielded ops a.tmps) = true) (x : Operand) (ho : op.op = .convert 24 9 x) (v : Value) (hx : a.eval x = v) (t : ByteArray) (h : ∀ w, S w → (convert 24 9 v).run Tryd.prog w = .ok (.string t) w) :
    YieldsIf Tryd.prog ops S op (.string t) a :=
  .inl ⟨hw, fun w hS => by
    unfold execOp
    simp only [ho, hx, Sem.run_bind, h w hS, Result.andThen_ok, Sem.run_pure]⟩
/-- The strings that are asked. -/
def texts (H l : List Nat) (q b : Nat) : List (List Nat) := [l, H, H.take q, H ++ l, H.set q b]
theorem texts_byte {H l : List Nat} {q b : Nat} (hH : ∀ c ∈ H, c < 256) (hl : ∀ c ∈ l, c < 256) (hb : b < 256) : ∀ v ∈ texts H l q b, ∀ c ∈ v, c < 256 := by
  intro v hv c hc
  simp [texts] at hv
  rcases hv with rfl | rfl | rfl | rfl | rfl
  · exact hl c hc
  · exact hH c hc
  · exact hH c (List.mem_of_mem_take hc)
  · rcases List.mem_append.1 hc with h | h
    · exact hH c h
    · exact hl c h
  · rcases List.mem_or_eq_of_mem_set hc with h | h
    · exact hH c h
    · rw [h]; exact hb
theorem texts_len {H l : List Nat} {q b : Nat} (hH : H.length = 64) (hl : l.length ≤ 140737488355328) : ∀ v ∈ texts H l q b, v.length ≤ maxLen := by
  intro v hv
  unfold maxLen
  simp [texts] at hv
  rcases hv with rfl | rfl | rfl | rfl | rfl
  · omega
  · omega
  · rw [List.length_take]; omega
  · rw [List.length_append]; omega
  · rw [List.length_set]; omega

set_option maxHeartbeats 4000000 in
theorem shaTexts_walk (xs : List Nat) (s : ByteArray) (n2 n3 : Int) (W : World) (ht : Tabs W) (hx : xs.length = 32) (bx : ∀ c ∈ xs, c < 256) (hs : s.size ≤ 140737488355328) (w2 : (Lit.int .u8 n2).wf = true) (w3 : (Lit.int .u8 n3).wf = true) :
    Calls Tryd.prog 6 #[.agg (u8v xs).toArray, .string s, .int .u8 n2, .int .u8 n3] W fun e W' => e = .returned (.bool true) ∧ Below W.heap.size W W' := by
  obtain ⟨z26, i26⟩ := zero_of_info zero26
  obtain ⟨Z, hZ⟩ : ∃ Z, Z = u8v (List.replicate 32 0) := ⟨_, rfl⟩
  rw [← hZ] at z26
  have HZl : Hid (Z.length = 32) := by show _ = _; rw [hZ, u8v_len]; simp
  obtain ⟨l, hlb, rfl⟩ := any_str s
  rw [strN_size] at hs
  obtain ⟨at_, rfl⟩ : ∃ m : Nat, n2 = m := ⟨n2.toNat, by have := bounds_u8 w2; omega⟩
  obtain ⟨b, rfl⟩ : ∃ m : Nat, n3 = m := ⟨n3.toNat, by have := bounds_u8 w3; omega⟩
  have hat : at_ ≤ 255 := by have := bounds_u8 w2; omega
  have hbb : b ≤ 255 := by have := bounds_u8 w3; omega
  obtain ⟨H, hH⟩ : ∃ H, H = ShaMath.hexL xs := ⟨_, rfl⟩
  have HH : Hid _ := hH
  have HHl : Hid (H.length = 64) := by show _ = _; rw [hH, ShaMath.hexL_len, hx]
  have HHb : Hid (∀ c ∈ H, c < 256) := by rw [hH]; exact ShaMath.hexL_lt xs bx
  have HTX : Hid (∀ w, Calls Tryd.prog 14 #[.agg (u8v xs).toArray] w fun e w' => e = .returned (.string (strN H)) ∧ Below w.heap.size w w') := by intro w; rw [hH]; exact text_any xs w hx bx
  have HIT : Hid (∀ w, Calls Tryd.prog 15 #[.agg (u8v xs).toArray] w fun e w' => e = .returned (.string (strN H)) ∧ Below w.heap.size w w') := by intro w; rw [hH]; exact idText_any xs w hx bx
  obtain ⟨X, hX⟩ : ∃ X, X = u8v xs := ⟨_, rfl⟩
  have HXl : Hid (X.length = 32) := by show _ = _; rw [hX, u8v_len, hx]
  rw [← hX] at HTX HIT ⊢
  have HT : Hid _ := ht
  have HLB : Hid _ := hlb
  have HLS : Hid _ := hs
  have htl := ht.lt
  clear hZ i26 hH hX ht hlb hs w2 w3
  have hst : (strN H).size = 64 := by rw [strN_size]; exact HHl.out
  have hconv : ∀ w, (convert 9 24 (.string (strN H))).run Tryd.prog w = .ok (.slice (some ⟨w.heap.size, 0, none⟩) (strN H).size (grownCap w (strN H).size 0 5)) (Lib.bytesWorld w 5 (strN H)) := fun w => Lib.run_convert_string_bytes w 9 24 5 (strN H) Tryd.underlying9 Tryd.underlying24 Tryd.underlying5
  have HCV : Hid _ := hconv
  clear hconv
  have HA1 : Hid (Arr (W.alloc (Obj.cells X.toArray 26)) W.heap.size 26 X) := Arr.new W 26 X rfl
  have HB1 : Hid (Below W.heap.size W (W.alloc (Obj.cells X.toArray 26))) := (Below.refl _ _).alloc (Nat.le_refl _) _
  go_enter Tryd.func6, Tryd.ntmps6
  go_wp2_with fail
  generalize (W.alloc (Obj.cells X.toArray 26)) = w1 at *
  refine Calls.mono (known3_any w1 (HT.out.later HB1.out htl)) ?_
  rintro e w2 ⟨rfl, hB2⟩
  have HA2 : Hid (Arr w2 W.heap.size 26 X) := Arr.later HA1.out hB2 (Arr.lt HA1.out)
  have HB2 : Hid (Below W.heap.size W w2) := HB1.out.trans (hB2.mono HB1.out.size)
  clear hB2 HA1 HB1
  go_wp2_with (refine wpList_load_mid rfl 26 (.tmp 4) rfl W.heap.size 0 rfl X (.array 32 5) (range_of_arr HA2.out) Tryd.underlying26 rfl (by rw [HXl.out]; exact size26) ?_)
  refine Calls.mono (HTX.out _) ?_
  rintro e w3 ⟨rfl, hB3⟩
  have HA3 : Hid (Arr w3 W.heap.size 26 X) := Arr.later HA2.out hB3 (Arr.lt HA2.out)
  have HB3 : Hid (Below W.heap.size W w3) := HB2.out.trans (hB3.mono HB2.out.size)
  clear hB3 HA2 HB2
  go_wp2_with (refine wpList_load_mid rfl 26 (.tmp 4) rfl W.heap.size 0 rfl X (.array 32 5) (range_of_arr HA3.out) Tryd.underlying26 rfl (by rw [HXl.out]; exact size26) ?_)
  refine Calls.mono (HIT.out _) ?_
  rintro e w4 ⟨rfl, hB4⟩
  have HB4 : Hid (Below W.heap.size W w4) := HB3.out.trans (hB4.mono HB3.out.size)
  clear hB4 HA3 HB3
  have hconv := HCV.out w4
  rw [hst] at hconv
  obtain ⟨cap, hcap⟩ : ∃ c, c = grownCap w4 64 0 5 := ⟨_, rfl⟩
  rw [← hcap] at hconv
  have HG : Hid ((Lib.bytesWorld w4 5 (strN H)).heap[w4.heap.size]? = some (.cells (Lib.bytesCells w4 5 (strN H)) 5 ((Lib.bytesCells w4 5 (strN H)).size, (Lib.bytesCells w4 5 (strN H)).size + 1))) := Lib.bytesWorld_at_new w4 5 (strN H)
  have HC : Hid (∀ j, j < 64 → (Lib.bytesWorld w4 5 (strN H)).cell? ⟨w4.heap.size, j, none⟩ = some (.int .u8 ((H[j]?.getD 0 : Nat) : Int))) := by
    intro j hj
    have hjl : j < H.length := by rw [HHl.out]; exact hj
    rw [Lib.bytesWorld_cell w4 5 (strN H) j (by rw [hst]; exact hj), strN_data]
    have hb := HHb.out H[j] (List.getElem_mem hjl)
    simp [hjl]
    omega
  have hcs : 64 ≤ (Lib.bytesCells w4 5 (strN H)).size := by unfold Lib.bytesCells; simp only [Array.size_append, Array.size_map]; have : (strN H).data.size = 64 := hst; omega
  have HF : Hid (∀ j, j < 64 → (Lib.bytesWorld w4 5 (strN H)).frozen? ⟨w4.heap.size, j, none⟩ = false) := by
    intro j hj
    simp only [World.frozen?, HG.out]
    simp
    omega
  have HB5 : Hid (Below W.heap.size W (Lib.bytesWorld w4 5 (strN H))) := HB4.out.trans ⟨rfl, rfl, rfl, by rw [Lib.bytesWorld_size]; have := HB4.out.size; omega, fun k hk => Lib.bytesWorld_at_old w4 5 (strN H) k (by have := HB4.out.size; omega)⟩
  have HS5 : Hid ((Lib.bytesWorld w4 5 (strN H)).heap.size = w4.heap.size + 1) := Lib.bytesWorld_size w4 5 (strN H)
  obtain ⟨q, hq1, hq⟩ : ∃ q : Nat, (at_ : Int) % 64 = (q : Int) ∧ q = at_ % 64 := ⟨at_ % 64, by omega, rfl⟩
  have hq1T : (at_ : Int).tmod 64 = (q : Int) := by rw [Int.tmod_eq_emod_of_nonneg (by omega)]; exact hq1
  have hql : q < 64 := by omega
  have hqI : (q : Int) < 64 := by omega
  have hcq := HC.out q hql
  have hfq := HF.out q hql
  clear hq hcap hcs HG HCV
  generalize Lib.bytesWorld w4 5 (strN H) = w5 at *
  obtain ⟨gc, hgc⟩ : ∃ g, g = w4.heap.size := ⟨_, rfl⟩
  have hgcW : W.heap.size ≤ gc := by rw [hgc]; exact HB4.out.size
  rw [← hgc] at hconv HC HF hcq hfq HS5
  clear hgc HB4
  have HR6 : Hid (Row .u8 (w5.setCell ⟨gc, q, none⟩ (.int .u8 (b : Int))) (some ⟨gc, 0, none⟩) (ints (H.set q b))) := by
    refine .inr ⟨gc, 0, rfl, fun i hi => ?_⟩
    have hi' : i < H.length := by rw [ints_len, List.length_set] at hi; exact hi
    have hi64 : i < 64 := by rw [HHl.out] at hi'; exact hi'
    rw [Nat.zero_add]
    by_cases e : i = q
    · subst e
      rw [World.cell?_setCell_same _ _ _ hcq]
      simp [ints, hi']
    · rw [World.cell?_setCell_other _ _ _ _ (by intro h; injection h; omega), HC.out i hi64]
      simp [ints, hi', List.getElem_set, Ne.symm e]
  have HB6 : Hid (Below W.heap.size W (w5.setCell ⟨gc, q, none⟩ (.int .u8 (b : Int)))) := HB5.out.setCell hgcW _
  have hne1 : ((strN H).toList == (strN H).toList) = true := by simp
  go_wp2_with fail
  clear hcq hfq hconv HC HF HS5 HTX HIT HB5
  generalize w5.setCell ⟨gc, q, none⟩ (.int .u8 (b : Int)) = w6 at *
  have HQ : Hid (q ≤ H.length) := by show _ ≤ _; rw [HHl.out]; omega
  have HCL : Hid (H.length + l.length ≤ 9223372036854775807) := by show _ ≤ _; have := HHl.out; have := HLS.out; omega
  have HRS : Hid (∀ w', Below w6.heap.size w6 w' → (convert 24 9 (.slice (some ⟨gc, 0, none⟩) 64 cap)).run Tryd.prog w' = .ok (.string (strN (H.set q b))) w') := by
    intro w' h
    have := row_string (cap := cap) (Row.later HR6.out h)
    rw [ints_len, List.length_set, HHl.out] at this
    exact this
  refine wp_region_held_drew (S := fun w' => Below w6.heap.size w6 w') rfl ((Below.refl _ _).drew) (fun hS => ?_)
  refine wpAnyH_take (i := 0) (v := ?_) rfl (by kernel_rfl) (by kernel_rfl) (by kernel_rfl) (fun _ _ _ h => h) (Or.inl ⟨by rfl, ?_⟩) hS ?_
  rotate_left 1
  · intro w hSw; (try dsimp only at hSw); go_simp <;> with_reducible rfl
  try simp only [List.getElem_toArray, List.getElem_cons_zero, List.getElem_cons_succ, Act.put, List.setIfInBounds_toArray, List.set_cons_zero, List.set_cons_succ]
  refine wpAnyH_take (i := 1) (v := ?_) rfl (by kernel_rfl) (by kernel_rfl) (by kernel_rfl) (fun _ _ _ h => h) (Or.inl ⟨by rfl, ?_⟩) hS ?_
  rotate_left 1
  · intro w hSw; (try dsimp only at hSw); go_simp <;> with_reducible rfl
  try simp only [List.getElem_toArray, List.getElem_cons_zero, List.getElem_cons_succ, Act.put, List.setIfInBounds_toArray, List.set_cons_zero, List.set_cons_succ]
  refine wpAnyH_take (i := 2) (v := ?_) rfl (by kernel_rfl) (by kernel_rfl) (by kernel_rfl) (fun _ _ _ h => h) (Or.inl ⟨by rfl, ?_⟩) hS ?_
  rotate_left 1
  · intro w hSw; (try dsimp only at hSw); go_simp <;> with_reducible rfl
  try simp only [List.getElem_toArray, List.getElem_cons_zero, List.getElem_cons_succ, Act.put, List.setIfInBounds_toArray, List.set_cons_zero, List.set_cons_succ]
  refine wpAnyH_take (i := 3) (v := ?_) rfl (by kernel_rfl) (by kernel_rfl) (by kernel_rfl) (fun _ _ _ h => h) (Or.inl ⟨by rfl, ?_⟩) hS ?_
  rotate_left 1
  · intro w hSw; (try dsimp only at hSw); go_simp <;> with_reducible rfl
  try simp only [List.getElem_toArray, List.getElem_cons_zero, List.getElem_cons_succ, Act.put, List.setIfInBounds_toArray, List.set_cons_zero, List.set_cons_succ]
  refine wpAnyH_take (i := 4) (v := ?_) rfl (by kernel_rfl) (by kernel_rfl) (by kernel_rfl) (fun _ _ _ h => h) (Or.inl ⟨by rfl, ?_⟩) hS ?_
  rotate_left 1
  · intro w hSw; (try dsimp only at hSw); go_simp <;> with_reducible rfl
  try simp only [List.getElem_toArray, List.getElem_cons_zero, List.getElem_cons_succ, Act.put, List.setIfInBounds_toArray, List.set_cons_zero, List.set_cons_succ]
  refine wpAnyH_take (i := 5) (v := _) rfl (by kernel_rfl) (by kernel_rfl) (by kernel_rfl) (fun _ _ _ h => h) (yields_slice0 (by rfl) (.tmp 39) (.tmp 41) rfl H rfl .u8 q rfl HQ.out) hS ?_
  try simp only [List.getElem_toArray, List.getElem_cons_zero, List.getElem_cons_succ, Act.put, List.setIfInBounds_toArray, List.set_cons_zero, List.set_cons_succ]
  refine wpAnyH_take (i := 6) (v := ?_) rfl (by kernel_rfl) (by kernel_rfl) (by kernel_rfl) (fun _ _ _ h => h) (Or.inl ⟨by rfl, ?_⟩) hS ?_
  rotate_left 1
  · intro w hSw; (try dsimp only at hSw); go_simp <;> with_reducible rfl
  try simp only [List.getElem_toArray, List.getElem_cons_zero, List.getElem_cons_succ, Act.put, List.setIfInBounds_toArray, List.set_cons_zero, List.set_cons_succ]
  refine wpAnyH_take (i := 7) (v := ?_) rfl (by kernel_rfl) (by kernel_rfl) (by kernel_rfl) (fun _ _ _ h => h) (Or.inl ⟨by rfl, ?_⟩) hS ?_
  rotate_left 1
  · intro w hSw; (try dsimp only at hSw); go_simp <;> with_reducible rfl
  try simp only [List.getElem_toArray, List.getElem_cons_zero, List.getElem_cons_succ, Act.put, List.setIfInBounds_toArray, List.set_cons_zero, List.set_cons_succ]
  refine wpAnyH_take (i := 8) (v := _) rfl (by kernel_rfl) (by kernel_rfl) (by kernel_rfl) (fun _ _ _ h => h) (yields_cat (by rfl) (.tmp 43) (.tmp 44) rfl H l rfl rfl HCL.out) hS ?_
  try simp only [List.getElem_toArray, List.getElem_cons_zero, List.getElem_cons_succ, Act.put, List.setIfInBounds_toArray, List.set_cons_zero, List.set_cons_succ]
  refine wpAnyH_take (i := 9) (v := ?_) rfl (by kernel_rfl) (by kernel_rfl) (by kernel_rfl) (fun _ _ _ h => h) (Or.inl ⟨by rfl, ?_⟩) hS ?_
  rotate_left 1
  · intro w hSw; (try dsimp only at hSw); go_simp <;> with_reducible rfl
  try simp only [List.getElem_toArray, List.getElem_cons_zero, List.getElem_cons_succ, Act.put, List.setIfInBounds_toArray, List.set_cons_zero, List.set_cons_succ]
  refine wpAnyH_take (i := 10) (v := _) rfl (by kernel_rfl) (by kernel_rfl) (by kernel_rfl) (fun _ _ _ h => h) (yields_conv (by rfl) (.tmp 46) rfl (.slice (some ⟨gc, 0, none⟩) 64 cap) rfl (strN (H.set q b)) HRS.out) hS ?_
  try simp only [List.getElem_toArray, List.getElem_cons_zero, List.getElem_cons_succ, Act.put, List.setIfInBounds_toArray, List.set_cons_zero, List.set_cons_succ]
  refine wpAnyH_take (i := 13) (v := ?_) rfl (by kernel_rfl) (by kernel_rfl) (by kernel_rfl) (fun _ _ _ h => h) (Or.inl ⟨by rfl, ?_⟩) hS ?_
  rotate_left 1
  · intro w hSw; (try dsimp only at hSw); go_simp <;> with_reducible rfl
  try simp only [List.getElem_toArray, List.getElem_cons_zero, List.getElem_cons_succ, Act.put, List.setIfInBounds_toArray, List.set_cons_zero, List.set_cons_succ]
  refine wpAnyH_ready (rs := [11]) (by kernel_rfl) (by simp) ?_
  refine AllReadyH.cons rfl (fun K hK => ?_) AllReadyH.nil
  go_simp
  refine hK.out _ _ (Below.alloc hS hS.size _) (fun hS => ?_)
  clear hK K
  try simp only [List.getElem_toArray, List.getElem_cons_zero, List.getElem_cons_succ, Act.put, List.setIfInBounds_toArray, List.set_cons_zero, List.set_cons_succ]
  refine wpAnyH_take (i := 12) (v := ?_) rfl (by kernel_rfl) (by kernel_rfl) (by kernel_rfl) (fun _ _ _ h => h) (Or.inl ⟨by rfl, ?_⟩) hS ?_
  rotate_left 1
  · intro w hSw; (try dsimp only at hSw); go_simp <;> with_reducible rfl
  try simp only [List.getElem_toArray, List.getElem_cons_zero, List.getElem_cons_succ, Act.put, List.setIfInBounds_toArray, List.set_cons_zero, List.set_cons_succ]
  refine wpAnyH_done (by kernel_rfl) ?_ _
  have HB7 : Hid (Below W.heap.size W ((w6.alloc (Obj.cells #[Value.string (strN l), Value.string (strN H), Value.string (strN (H.take q)), Value.string (strN (H ++ l)), Value.string (strN (H.set q b))] 9)).drew)) := (HB6.out.alloc HB6.out.size _).drew
  have HC7 : Hid (∀ k, k < 5 → ((w6.alloc (Obj.cells #[Value.string (strN l), Value.string (strN H), Value.string (strN (H.take q)), Value.string (strN (H ++ l)), Value.string (strN (H.set q b))] 9)).drew).cell? ⟨w6.heap.size, k, none⟩ = some (.string (strN ((texts H l q b)[k]?.getD [])))) := by
    intro k hk
    have hA : Arr ((w6.alloc (Obj.cells #[Value.string (strN l), Value.string (strN H), Value.string (strN (H.take q)), Value.string (strN (H ++ l)), Value.string (strN (H.set q b))] 9)).drew) w6.heap.size 9 ((texts H l q b).map fun v => Value.string (strN v)) := Arr.drew (Arr.new w6 9 _ rfl)
    rw [hA.cell k]
    have : k < (texts H l q b).length := hk
    simp [this]
  generalize ((w6.alloc (Obj.cells #[Value.string (strN l), Value.string (strN H), Value.string (strN (H.take q)), Value.string (strN (H ++ l)), Value.string (strN (H.set q b))] 9)).drew) = w7 at *
  have HTB : Hid _ := texts_byte (q := q) HHb.out HLB.out (by omega : b < 256)
  have HTL : Hid _ := texts_len (q := q) (b := b) HHl.out HLS.out
  obtain ⟨gs, hgs⟩ : ∃ g, g = w6.heap.size := ⟨_, rfl⟩
  rw [← hgs] at HC7 ⊢
  obtain ⟨TS, hTS⟩ : ∃ T, T = texts H l q b := ⟨_, rfl⟩
  have HTSl : Hid (TS.length = 5) := by show _ = _; rw [hTS]; rfl
  rw [← hTS] at HC7 HTB HTL
  generalize strN (H.take q) = V1
  generalize strN (H ++ l) = V2
  generalize strN (H.set q b) = V3
  clear hgs hTS hS HRS HQ HCL HR6
  go_wp2_with fail
  go_loopw [50] (fun i wr => ∃ k : Nat, k ≤ 5 ∧ i = .int .i64 k ∧ Below w7.heap.size w7 wr) (fun i _ => 5 - (intOf i).toNat)
  case atStart => exact ⟨0, by omega, rfl, Below.refl _ _⟩
  case round =>
    obtain ⟨k, hk, rfl, hBr⟩ := hrel
    by_cases hlt : k < 5
    · have hcell := HC7.out k hlt
      have hcr : wr.cell? ⟨gs, k, none⟩ = some (.string (strN (TS[k]?.getD []))) := by
        rw [hBr.cell (World.block_lt_of_cell? w7 _ hcell)]; exact hcell
      have hkl : k < TS.length := by rw [HTSl.out]; exact hlt
      have hvm : TS[k]?.getD [] ∈ TS := by simp [hkl]
      obtain ⟨v, hv⟩ : ∃ v, v = TS[k]?.getD [] := ⟨_, rfl⟩
      rw [← hv] at hcr hvm
      have HVB : Hid _ := HTB.out v hvm
      have HVL : Hid _ := HTL.out v hvm
      have HPA : Hid (∀ w, _) := fun w => parse_any v w HVB.out HVL.out
      have HPB : Hid (∀ w, _) := fun w => idParse_any v w HVB.out HVL.out
      have hBW : Below W.heap.size W wr := HB7.out.trans (hBr.mono HB7.out.size)
      have HRl : Hid ((u8v (ShaMath.parseX v)).length = 32) := by show _ = _; rw [u8v_len, ShaMath.parseX_len]
      have HRo : Hid _ := u8v_one (ShaMath.parseX v)
      have heq : ∀ w, (Op.equalIn 10000 26 (.agg (u8v (ShaMath.parseX v)).toArray) (.agg (u8v (ShaMath.parseX v)).toArray)).run Tryd.prog w = .ok true w := eq_same _ (ShaMath.parseX_len v)
      have HTX : Hid (ShaMath.okHex v = true → ∀ w, Calls Tryd.prog 14 #[.agg (u8v (ShaMath.parseX v)).toArray] w fun e w' => e = .returned (.string (strN v)) ∧ Below w.heap.size w w') := by
        intro h w
        have := text_any (ShaMath.parseX v) w (ShaMath.parseX_len v) (ShaMath.parseX_lt v)
        rw [ShaMath.hex_parse v h] at this
        exact this
      generalize u8v (ShaMath.parseX v) = R at *
      generalize hok : ShaMath.okHex v = ok at *
      clear hcell hkl hvm hv hok
      go_wp2_with fail
      refine Calls.mono (HPA.out _) ?_
      rintro e wa ⟨rfl, hBa⟩
      have HBa : Hid (Below w7.heap.size w7 wa) := hBr.trans (hBa.mono hBr.size)
      clear hBa
      go_wp2_with (refine wpList_store_arr rfl 26 (.tmp 13) (.tmp 57) rfl wa.heap.size 26 Z R rfl rfl (Arr.new wa 26 Z rfl) (by rw [HRl.out]; exact size26) (by rw [HZl.out, HRl.out]) HRo.out ?_)
      have HBb : Hid (Below w7.heap.size w7 ((wa.alloc (Obj.cells Z.toArray 26)).setRow wa.heap.size R.toArray)) := below_setRow (HBa.out.alloc HBa.out.size _) HBa.out.size _
      have Hg13 : Hid (Arr ((wa.alloc (Obj.cells Z.toArray 26)).setRow wa.heap.size R.toArray) wa.heap.size 26 R) := Arr.row (Arr.new wa 26 Z rfl)
      obtain ⟨g13, hg13⟩ : ∃ g, g = wa.heap.size := ⟨_, rfl⟩
      rw [← hg13] at HBb Hg13 ⊢
      generalize ((wa.alloc (Obj.cells Z.toArray 26)).setRow g13 R.toArray) = wb at *
      clear hg13 HBa
      refine Calls.mono (HPB.out _) ?_
      rintro e wc ⟨rfl, hBc⟩
      have HBc : Hid (Below w7.heap.size w7 wc) := HBb.out.trans (hBc.mono HBb.out.size)
      have Hg13c : Hid (Arr wc g13 26 R) := Arr.later Hg13.out hBc (Arr.lt Hg13.out)
      clear hBc Hg13 HBb
      have HBd : Hid (Below w7.heap.size w7 ((wc.alloc (Obj.cells Z.toArray 26)).setRow wc.heap.size R.toArray)) := below_setRow (HBc.out.alloc HBc.out.size _) HBc.out.size _
      have Hg15 : Hid (Arr ((wc.alloc (Obj.cells Z.toArray 26)).setRow wc.heap.size R.toArray) wc.heap.size 26 R) := Arr.row (Arr.new wc 26 Z rfl)
      have Hg13 : Hid (Arr ((wc.alloc (Obj.cells Z.toArray 26)).setRow wc.heap.size R.toArray) g13 26 R) := (Arr.alloc Hg13c.out _).row_other _ (by have := Arr.lt Hg13c.out; omega)
      obtain ⟨g15, hg15⟩ : ∃ g, g = wc.heap.size := ⟨_, rfl⟩
      rw [← hg15] at HBd Hg15 Hg13
      cases ok with
      | false =>
        go_wp2_with (first
          | (refine wpList_store_arr rfl 26 (.tmp 15) (.tmp 62) rfl wc.heap.size 26 Z R rfl rfl (Arr.new wc 26 Z rfl) (by rw [HRl.out]; exact size26) (by rw [HZl.out, HRl.out]) HRo.out ?_; rw [← hg15]; generalize ((wc.alloc (Obj.cells Z.toArray 26)).setRow g15 R.toArray) = wd at *; clear hg15)
          | (refine wpList_load_mid rfl 26 (.tmp 13) rfl g13 0 rfl R (.array 32 5) (range_of_arr Hg13.out) Tryd.underlying26 rfl (by rw [HRl.out]; exact size26) ?_)
          | (refine wpList_load_mid rfl 26 (.tmp 15) rfl g15 0 rfl R (.array 32 5) (range_of_arr Hg15.out) Tryd.underlying26 rfl (by rw [HRl.out]; exact size26) ?_))
        go_roundw
        case rel => exact ⟨k + 1, by omega, by go_num, HBd.out⟩
        case measure => simp [intOf]; omega
      | true =>
        go_wp2_with (first
          | (refine wpList_store_arr rfl 26 (.tmp 15) (.tmp 62) rfl wc.heap.size 26 Z R rfl rfl (Arr.new wc 26 Z rfl) (by rw [HRl.out]; exact size26) (by rw [HZl.out, HRl.out]) HRo.out ?_; rw [← hg15]; generalize ((wc.alloc (Obj.cells Z.toArray 26)).setRow g15 R.toArray) = wd at *; clear hg15)
          | (refine wpList_load_mid rfl 26 (.tmp 13) rfl g13 0 rfl R (.array 32 5) (range_of_arr Hg13.out) Tryd.underlying26 rfl (by rw [HRl.out]; exact size26) ?_)
          | (refine wpList_load_mid rfl 26 (.tmp 15) rfl g15 0 rfl R (.array 32 5) (range_of_arr Hg15.out) Tryd.underlying26 rfl (by rw [HRl.out]; exact size26) ?_)
          | (refine wpList_want (by rfl) (fun K hK => wp_load_mid 26 (.tmp 13) rfl g13 0 rfl R (.array 32 5) (range_of_arr Hg13.out) Tryd.underlying26 rfl (by rw [HRl.out]; exact size26) (hK _ _ ?_))))
        refine Calls.mono (HTX.out (by trivial) _) ?_
        rintro e we ⟨rfl, hBe⟩
        have HBe : Hid (Below w7.heap.size w7 we) := HBd.out.trans (hBe.mono HBd.out.size)
        clear hBe
        have hne2 : ((strN v).toList == (strN v).toList) = true := by simp
        go_wp2
        go_roundw
        case rel => exact ⟨k + 1, by omega, by go_num, HBe.out⟩
        case measure => simp [intOf]; omega
    · obtain rfl : k = 5 := by omega
      go_wp2
      go_ret
      exact ⟨rfl, HB7.out.trans (hBr.mono HB7.out.size)⟩

end Go.Proofs.YtfgpoclflikhmaaDoor

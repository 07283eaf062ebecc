/-
  Walk of newsreellaw3.known: it answers true.
-/
import Derived.Test.YtfgpoclflikhmaaDoorFnShaText
import Derived.Test.YtfgpoclflikhmaaDoorFnShaParse
import Derived.Test.YtfgpoclflikhmaaDoorFnShaLess
import Derived.Test.YtfgpoclflikhmaaDoorEqKit
import Derived.Lib.SlBytesConst
namespace Go.Proofs.YtfgpoclflikhmaaDoor
open Go.RowKit NumMath
set_option maxRecDepth 100000
set_option linter.unusedVariables false
set_option linter.unusedSimpArgs false
attribute [-simp] Tryd.isAgg49 Tryd.zeroValue49 Tryd.isAgg26 Tryd.zeroValue26 Tryd.isAgg51

/-- A literal's row, with whatever mark behind it. -/
theorem lit_rowM (w : World) (k : IntKind) (l : List Int) (t : TypeId) (mk : Nat × Nat) (g : Nat) (hg : g = w.heap.size) : Row k (w.alloc (.cells (l.map (Value.int k)).toArray t mk)) (some ⟨g, 0, none⟩) l := by
  refine .inr ⟨g, 0, rfl, fun i hi => ?_⟩
  rw [Nat.zero_add]
  obtain ⟨m1, m2⟩ := mk
  subst hg
  rw [World.cell?_alloc_mark]
  simp [hi]

theorem conv_second (w : World) (o : Obj) (C : Array Value) (n c : Nat) :
    (convert 24 24 (.slice (some ⟨w.heap.size + 1, 0, none⟩) n c)).run Tryd.prog ((w.alloc o).alloc (.cells C 5)) = .ok (.slice (some ⟨w.heap.size + 1, 0, none⟩) n c) ((w.alloc o).alloc (.cells C 5 (C.size, C.size + 1))) := by
  have := Lib.run_convert_bytes_const (P := Tryd.prog) (w.alloc o) 24 5 C n c Tryd.underlying24 Tryd.underlying5
  have hz : (w.alloc o).heap.size = w.heap.size + 1 := by simp
  rw [hz] at this
  exact this

def abcD : List Nat := [0xba,0x78,0x16,0xbf,0x8f,0x01,0xcf,0xea,0x41,0x41,0x40,0xde,0x5d,0xae,0x22,0x23,0xb0,0x03,0x61,0xa3,0x96,0x17,0x7a,0x9c,0xb4,0x10,0xff,0x61,0xf2,0x00,0x15,0xad]
def nilD : List Nat := [0xe3,0xb0,0xc4,0x42,0x98,0xfc,0x1c,0x14,0x9a,0xfb,0xf4,0xc8,0x99,0x6f,0xb9,0x24,0x27,0xae,0x41,0xe4,0x64,0x9b,0x93,0x4c,0xa4,0x95,0x99,0x1b,0x78,0x52,0xb8,0x55]
theorem digest_abc : ShaMath.digest [97, 98, 99] = abcD := by
  have e : ShaMath.digest [97, 98, 99] = ShaMath.out (ShaMath.comp ShaMath.init ([97, 98, 99, 128] ++ List.replicate 59 0 ++ [24])) := by
    unfold ShaMath.digest
    rw [show [97, 98, 99] ++ ShaMath.pad [97, 98, 99].length = [97, 98, 99, 128] ++ List.replicate 59 0 ++ [24] by decide +kernel]
    rfl
  rw [e, ← ShaMath.compF_eq]
  decide +kernel
theorem digest_nil : ShaMath.digest [] = nilD := by
  have e : ShaMath.digest [] = ShaMath.out (ShaMath.comp ShaMath.init ([128] ++ List.replicate 63 0)) := by
    unfold ShaMath.digest
    rw [show [] ++ ShaMath.pad ([] : List Nat).length = [128] ++ List.replicate 63 0 by decide +kernel]
    rfl
  rw [e, ← ShaMath.compF_eq]
  decide +kernel
def abcText : List Nat := ShaMath.hexL abcD
theorem abc_text : ((strN (ShaMath.hexL abcD)).toList == ({ data := #[98, 97, 55, 56, 49, 54, 98, 102, 56, 102, 48, 49, 99, 102, 101, 97, 52, 49, 52, 49, 52, 48, 100, 101, 53, 100, 97, 101, 50, 50, 50, 51, 98, 48, 48, 51, 54, 49, 97, 51, 57, 54, 49, 55, 55, 97, 57, 99, 98, 52, 49, 48, 102, 102, 54, 49, 102, 50, 48, 48, 49, 53, 97, 100] } : ByteArray).toList) = true := by decide +kernel
theorem abc_parse : ShaMath.parseX (ShaMath.hexL abcD) = abcD ∧ ShaMath.okHex (ShaMath.hexL abcD) = true := by decide +kernel
theorem abc_less : ShaMath.lexLt abcD nilD = true := by decide +kernel
theorem abcD_lt : ∀ c ∈ abcD, c < 256 := by decide
theorem nilD_lt : ∀ c ∈ nilD, c < 256 := by decide

theorem yields_eql_str {ops : Array Oper} {S : World → Prop} {op : Oper} {a : Act} (hw : Region.wanted op (yielded ops a.tmps) = true) (x y : Operand) (ho : op.op = .binOp .eql 9 x y 9) (s t : ByteArray) (hx : a.eval x = .string s) (hy : a.eval y = .string t) (b : Bool) (hb : (s.toList == t.toList) = b) :
    YieldsIf Tryd.prog ops S op (.bool b) a :=
  .inl ⟨hw, fun w _ => by
    unfold execOp
    simp only [ho, hx, hy, binOp_string_eql, hb]
    rfl⟩

set_option maxHeartbeats 4000000 in
theorem known3_any (w : World) (ht : Tabs w) : Calls Tryd.prog 8 #[] w fun e w' => e = .returned (.bool true) ∧ Below w.heap.size w w' := by
  have kc := fun (w : World) (C : Array Value) (n c : Nat) => Lib.run_convert_bytes_const (P := Tryd.prog) w 24 5 C n c Tryd.underlying24 Tryd.underlying5
  have kc2 := conv_second
  obtain ⟨z26, i26⟩ := zero_of_info zero26
  obtain ⟨Z, hZ⟩ : ∃ Z, Z = u8v (List.replicate 32 0) := ⟨_, rfl⟩
  rw [← hZ] at z26
  have HZl : Hid (Z.length = 32) := by show _ = _; rw [hZ, u8v_len]; simp
  have HXl : Hid ((u8v abcD).length = 32) := rfl
  have HXo : Hid _ := u8v_one abcD
  have HT : Hid _ := ht
  clear hZ i26 ht
  go_enter Tryd.func8, Tryd.ntmps8
  go_wp2_with fail
  have hBA : Below w.heap.size w (w.alloc (Obj.cells #[Value.int IntKind.u8 97] 5 (1, 2))) := (Below.refl _ _).alloc (Nat.le_refl _) _
  have hr1 : Row .u8 ((w.alloc (Obj.cells #[Value.int IntKind.u8 97] 5 (1, 2))).alloc (Obj.cells #[Value.int IntKind.u8 98, Value.int IntKind.u8 99] 5 (2, 3))) (some ⟨w.heap.size, 0, none⟩) [97] :=
    Row.later (by exact lit_rowM w .u8 [97] 5 (1, 2) _ rfl) ((Below.refl _ _).alloc (Nat.le_refl _) _)
  have hr2 : Row .u8 ((w.alloc (Obj.cells #[Value.int IntKind.u8 97] 5 (1, 2))).alloc (Obj.cells #[Value.int IntKind.u8 98, Value.int IntKind.u8 99] 5 (2, 3))) (some ⟨w.heap.size + 1, 0, none⟩) [98, 99] :=
    by exact lit_rowM (w.alloc (Obj.cells #[Value.int IntKind.u8 97] 5 (1, 2))) .u8 [98, 99] 5 (2, 3) _ (by simp)
  have hB2 : Below w.heap.size w ((w.alloc (Obj.cells #[Value.int IntKind.u8 97] 5 (1, 2))).alloc (Obj.cells #[Value.int IntKind.u8 98, Value.int IntKind.u8 99] 5 (2, 3))) := hBA.alloc hBA.size _
  have hsz2 : ((w.alloc (Obj.cells #[Value.int IntKind.u8 97] 5 (1, 2))).alloc (Obj.cells #[Value.int IntKind.u8 98, Value.int IntKind.u8 99] 5 (2, 3))).heap.size = w.heap.size + 1 + 1 := by simp
  generalize ((w.alloc (Obj.cells #[Value.int IntKind.u8 97] 5 (1, 2))).alloc (Obj.cells #[Value.int IntKind.u8 98, Value.int IntKind.u8 99] 5 (2, 3))) = w2 at *
  have hps : Parts (w2.alloc (Obj.cells #[Value.slice (some ⟨w.heap.size, 0, none⟩) 1 1, Value.slice (some ⟨w.heap.size + 1, 0, none⟩) 2 2] 24)) (some ⟨w.heap.size + 1 + 1, 0, none⟩) [⟨some ⟨w.heap.size, 0, none⟩, [97], 1⟩, ⟨some ⟨w.heap.size + 1, 0, none⟩, [98, 99], 2⟩] := by
    refine lit_parts w2 [⟨some ⟨w.heap.size, 0, none⟩, [97], 1⟩, ⟨some ⟨w.heap.size + 1, 0, none⟩, [98, 99], 2⟩] 24 _ hsz2.symm ?_
    intro p hp
    simp at hp
    rcases hp with rfl | rfl
    · exact ⟨hr1, by show ∀ c ∈ [(97 : Int)], 0 ≤ c ∧ c ≤ 255; decide, by show 1 ≤ 1; decide, by show 1 ≤ maxLen; decide⟩
    · exact ⟨hr2, by show ∀ c ∈ [(98 : Int), 99], 0 ≤ c ∧ c ≤ 255; decide, by show 2 ≤ 2; decide, by show 2 ≤ maxLen; decide⟩
  have hB3 : Below w.heap.size w (w2.alloc (Obj.cells #[Value.slice (some ⟨w.heap.size, 0, none⟩) 1 1, Value.slice (some ⟨w.heap.size + 1, 0, none⟩) 2 2] 24)) := hB2.alloc hB2.size _
  have hsum := shaSum_any (some ⟨w.heap.size + 1 + 1, 0, none⟩) [⟨some ⟨w.heap.size, 0, none⟩, [97], 1⟩, ⟨some ⟨w.heap.size + 1, 0, none⟩, [98, 99], 2⟩] 2 _ (HT.out.later hB3 HT.out.lt) hps (by show 2 ≤ 2; decide) (by decide) (by show 3 < 576460752303423488; decide)
  rw [show nats (allB [⟨some ⟨w.heap.size, 0, none⟩, [97], 1⟩, ⟨some ⟨w.heap.size + 1, 0, none⟩, [98, 99], 2⟩]) = [97, 98, 99] from rfl, digest_abc] at hsum
  refine Calls.mono hsum ?_
  rintro e w4 ⟨rfl, hB4⟩
  have HB4 : Hid (Below w.heap.size w w4) := hB3.trans (hB4.mono hB3.size)
  clear hsum hps hB4 hB3 hB2 hsz2 hr1 hr2 hBA
  have HB5 : Hid (Below w.heap.size w ((w4.alloc (Obj.cells Z.toArray 26)).setRow w4.heap.size (u8v abcD).toArray)) := below_setRow (HB4.out.alloc HB4.out.size _) HB4.out.size _
  have HA5 : Hid (Arr ((w4.alloc (Obj.cells Z.toArray 26)).setRow w4.heap.size (u8v abcD).toArray) w4.heap.size 26 (u8v abcD)) := Arr.row (Arr.new w4 26 Z rfl)
  obtain ⟨X, hX⟩ : ∃ X, X = u8v abcD := ⟨_, rfl⟩
  have HX : Hid _ := hX
  rw [← hX] at HXl HXo HA5 HB5 ⊢
  clear hX
  go_wp2_with (refine wpList_store_arr rfl 26 (.tmp 1) (.tmp 10) rfl w4.heap.size 26 Z X rfl rfl (Arr.new w4 26 Z rfl) (by rw [HXl.out]; exact size26) (by rw [HZl.out, HXl.out]) HXo.out ?_)
  obtain ⟨gx, hgx⟩ : ∃ g, g = w4.heap.size := ⟨_, rfl⟩
  rw [← hgx] at HA5 HB5 ⊢
  have hgxw : w.heap.size ≤ gx := by rw [hgx]; exact HB4.out.size
  clear hgx
  generalize ((w4.alloc (Obj.cells Z.toArray 26)).setRow gx X.toArray) = w5 at *
  refine Calls.mono (new_any w5 (HT.out.later HB5.out HT.out.lt)) ?_
  rintro e w6 ⟨rfl, hh6, hB6⟩
  have hg5 := Arr.lt HA5.out
  have HA6 : Hid (Arr w6 gx 26 X) := Arr.later HA5.out hB6 hg5
  have HB6 : Hid (Below w.heap.size w w6) := HB5.out.trans (hB6.mono HB5.out.size)
  obtain ⟨gh, hgh⟩ : ∃ g, g = w5.heap.size := ⟨_, rfl⟩
  rw [← hgh] at hh6 ⊢
  have hgg : gx < gh := by omega
  have hs6 := hB6.size
  have hgh6 : gh < w6.heap.size := by obtain ⟨_, _, _, _, h⟩ := hh6; exact h.lt
  have HH6 : Hid _ := hh6
  clear hgh hB6 hh6 HA5 HB5 HB4 hs6
  go_wp2_with fail
  have hW := write_any gh [] (some ⟨w6.heap.size, 0, none⟩) [97, 98, 99] 3 (w6.alloc (Obj.cells #[Value.int IntKind.u8 97, Value.int IntKind.u8 98, Value.int IntKind.u8 99] 5 (3, 4))) (HT.out.later (HB6.out.alloc HB6.out.size _) HT.out.lt) (by have := HT.out.lt; omega)
    (by obtain ⟨blk, h1, h2, h3, h4⟩ := HH6.out; exact ⟨blk, h1, h2, h3, h4.alloc _⟩) (by exact lit_rowM w6 .u8 [97, 98, 99] 5 (3, 4) _ rfl) (by intro _ ad h; injection h with h; rw [← h]; show w6.heap.size ≠ gh; omega) (by decide) (by decide) (by decide) (by decide)
  rw [show [] ++ nats [97, 98, 99] = [97, 98, 99] from rfl] at hW
  have HB6a : Hid (Below w.heap.size w (w6.alloc (Obj.cells #[Value.int IntKind.u8 97, Value.int IntKind.u8 98, Value.int IntKind.u8 99] 5 (3, 4)))) := HB6.out.alloc HB6.out.size _
  have HA6a : Hid (Arr (w6.alloc (Obj.cells #[Value.int IntKind.u8 97, Value.int IntKind.u8 98, Value.int IntKind.u8 99] 5 (3, 4))) gx 26 X) := Arr.alloc HA6.out _
  generalize (w6.alloc (Obj.cells #[Value.int IntKind.u8 97, Value.int IntKind.u8 98, Value.int IntKind.u8 99] 5 (3, 4))) = w7 at *
  refine Calls.mono hW ?_
  rintro e w8 ⟨rfl, hh8, hg8⟩
  have HB8 : Hid (Below w.heap.size w w8) := HB6a.out.grown hg8 HB6a.out.size (fun k h => by injection h with h; omega)
  have HA8 : Hid (Arr w8 gx 26 X) := by
    have h := hg8.block gx (Arr.lt HA6a.out) (by intro e; injection e; omega)
    show w8.heap[gx]? = _
    rw [h]; exact HA6a.out
  have hgh8 : gh < w8.heap.size := by obtain ⟨_, _, _, _, h⟩ := hh8; exact h.lt
  have HH8 : Hid (HashAt w8 gh [97, 98, 99]) := hh8
  clear hW hg8 hh8 HB6a HA6a HA6 HB6 HH6 kc kc2
  go_wp2_with (refine wpList_load_mid rfl 26 (.tmp 1) rfl gx 0 rfl X (.array 32 5) (range_of_arr HA8.out) Tryd.underlying26 rfl (by rw [HXl.out]; exact size26) ?_)
  have HTX : Hid (∀ w, Calls Tryd.prog 14 #[.agg X.toArray] w fun e w' => e = .returned (.string (strN (ShaMath.hexL abcD))) ∧ Below w.heap.size w w') := by
    intro w; rw [HX.out]; exact text_any abcD w rfl abcD_lt
  refine Calls.mono (HTX.out _) ?_
  rintro e w9 ⟨rfl, hB9⟩
  have HPX : Hid (∀ w, Calls Tryd.prog 16 #[.string (strN (ShaMath.hexL abcD))] w fun e w' => e = .returned (.tuple #[.agg X.toArray, .bool true]) ∧ Below w.heap.size w w') := by
    intro w
    have := parse_any (ShaMath.hexL abcD) w (ShaMath.hexL_lt abcD abcD_lt) (by decide)
    rw [abc_parse.1, abc_parse.2, ← HX.out] at this
    exact this
  have habt := abc_text
  generalize hST : strN (ShaMath.hexL abcD) = ST at *
  clear hST
  have HABT : Hid _ := habt
  have HB9 : Hid (Below w.heap.size w w9) := HB8.out.trans (hB9.mono HB8.out.size)
  have HA9 : Hid (Arr w9 gx 26 X) := Arr.later HA8.out hB9 (Arr.lt HA8.out)
  have HH9 : Hid (HashAt w9 gh [97, 98, 99]) := by obtain ⟨blk, h1, h2, h3, h4⟩ := HH8.out; exact ⟨blk, h1, h2, h3, h4.later hB9 hgh8⟩
  clear hB9 HB8 HA8 HH8 habt
  go_wp2_with fail
  refine Calls.mono (HPX.out _) ?_
  rintro e w10 ⟨rfl, hB10⟩
  have HB10 : Hid (Below w.heap.size w w10) := HB9.out.trans (hB10.mono HB9.out.size)
  have HA10 : Hid (Arr w10 gx 26 X) := Arr.later HA9.out hB10 (Arr.lt HA9.out)
  have HH10 : Hid (HashAt w10 gh [97, 98, 99]) := by obtain ⟨blk, h1, h2, h3, h4⟩ := HH9.out; exact ⟨blk, h1, h2, h3, h4.later hB10 h4.lt⟩
  clear hB10 HB9 HA9 HH9 HPX
  go_wp2_with (refine wpList_store_arr rfl 26 (.tmp 3) (.tmp 22) rfl w10.heap.size 26 Z X rfl rfl (Arr.new w10 26 Z rfl) (by rw [HXl.out]; exact size26) (by rw [HZl.out, HXl.out]) HXo.out ?_)
  have HB11 : Hid (Below w.heap.size w ((w10.alloc (Obj.cells Z.toArray 26)).setRow w10.heap.size X.toArray)) := below_setRow (HB10.out.alloc HB10.out.size _) HB10.out.size _
  have Hgy : Hid (Arr ((w10.alloc (Obj.cells Z.toArray 26)).setRow w10.heap.size X.toArray) w10.heap.size 26 X) := Arr.row (Arr.new w10 26 Z rfl)
  have Hgx : Hid (Arr ((w10.alloc (Obj.cells Z.toArray 26)).setRow w10.heap.size X.toArray) gx 26 X) := (Arr.alloc HA10.out _).row_other _ (by have := Arr.lt HA10.out; omega)
  have HH11 : Hid (HashAt ((w10.alloc (Obj.cells Z.toArray 26)).setRow w10.heap.size X.toArray) gh [97, 98, 99]) := by
    obtain ⟨blk, h1, h2, h3, h4⟩ := HH10.out
    exact ⟨blk, h1, h2, h3, (h4.alloc _).row_other _ (by have := h4.lt; omega)⟩
  obtain ⟨gy, hgy⟩ : ∃ g, g = w10.heap.size := ⟨_, rfl⟩
  rw [← hgy] at HB11 Hgy Hgx HH11 ⊢
  clear hgy HB10 HA10 HH10
  generalize ((w10.alloc (Obj.cells Z.toArray 26)).setRow gy X.toArray) = w11 at *
  have Lgx : Hid (gx < w11.heap.size) := Arr.lt Hgx.out
  have Lgy : Hid (gy < w11.heap.size) := Arr.lt Hgy.out
  have HHS : Hid (∀ w', Below w11.heap.size w11 w' → Calls Tryd.prog 13 #[.pointer (some ⟨gh, 0, none⟩)] w' fun e w2 => e = .returned (.agg X.toArray) ∧ Below w'.heap.size w' w2) := by
    intro w' h
    obtain ⟨blk, h1, h2, h3, h4⟩ := HH11.out
    have := hashSum_any gh [97, 98, 99] w' (HT.out.later (HB11.out.trans (h.mono HB11.out.size)) HT.out.lt) (by have := HT.out.lt; omega) ⟨blk, h1, h2, h3, h4.later h h4.lt⟩ (by decide)
    rw [digest_abc, ← HX.out] at this
    exact this
  have HSN : Hid (∀ w', Below w11.heap.size w11 w' → Calls Tryd.prog 9 #[.slice none 0 0] w' fun e w2 => e = .returned (.agg (u8v nilD).toArray) ∧ Below w'.heap.size w' w2) := by
    intro w' h
    have := shaSum_any none [] 0 w' (HT.out.later (HB11.out.trans (h.mono HB11.out.size)) HT.out.lt) ⟨.inl rfl, by intro p hp; cases hp⟩ (Nat.le_refl _) (by decide) (by decide)
    rw [show nats (allB []) = [] from rfl, digest_nil] at this
    exact this
  have HLS : Hid (∀ w', Calls Tryd.prog 18 #[.agg X.toArray, .agg (u8v nilD).toArray] w' fun e w2 => e = .returned (.bool true) ∧ Below w'.heap.size w' w2) := by
    intro w'
    have := shaLess_any abcD nilD w' rfl rfl abcD_lt nilD_lt
    rw [abc_less, ← HX.out] at this
    exact this
  have heq : ∀ w, (Op.equalIn 10000 26 (.agg X.toArray) (.agg X.toArray)).run Tryd.prog w = .ok true w := by intro w; rw [HX.out]; exact eq_same abcD rfl w
  have habt := HABT.out
  generalize (u8v nilD).toArray = NA at *
  refine wp_region_held_drew (S := fun w' => Below w11.heap.size w11 w') rfl ((Below.refl _ _).drew) (fun hS => ?_)
  refine wpAnyH_take (i := 0) (v := _) rfl (by kernel_rfl) (by kernel_rfl) (by kernel_rfl) (fun _ _ _ h => h) (yieldsIf_load_mid (by rfl) 26 (.tmp 1) rfl gx 0 rfl X (.array 32 5) (fun w' h => range_of_arr (Arr.later Hgx.out h Lgx.out)) Tryd.underlying26 rfl (by rw [HXl.out]; exact size26)) hS ?_
  try simp only [List.getElem_toArray, List.getElem_cons_zero, List.getElem_cons_succ, Act.put, List.setIfInBounds_toArray, List.set_cons_zero, List.set_cons_succ]
  refine wpAnyH_ready (rs := [1]) (by kernel_rfl) (by simp) ?_
  refine AllReadyH.cons rfl (fun K hK => ?_) AllReadyH.nil
  go_simp
  refine Calls.mono (HTX.out _) ?_
  rintro e wa ⟨rfl, hba⟩
  have hS2 : Below w11.heap.size w11 wa := Below.trans hS (hba.mono hS.size)
  clear hba
  refine hK.out _ _ hS2 (fun hS => ?_)
  clear hK K hS2
  try simp only [List.getElem_toArray, List.getElem_cons_zero, List.getElem_cons_succ, Act.put, List.setIfInBounds_toArray, List.set_cons_zero, List.set_cons_succ]
  refine wpAnyH_take (i := 2) (v := .bool true) rfl (by kernel_rfl) (by kernel_rfl) (by kernel_rfl) (fun _ _ _ h => h) (yields_eql_str (by rfl) (.tmp 25) _ rfl ST _ rfl rfl true habt) hS ?_
  try simp only [List.getElem_toArray, List.getElem_cons_zero, List.getElem_cons_succ, Act.put, List.setIfInBounds_toArray, List.set_cons_zero, List.set_cons_succ]
  refine wpAnyH_take (i := 3) (v := ?_) rfl (by kernel_rfl) (by kernel_rfl) (by kernel_rfl) (fun _ _ _ h => h) (Or.inl ⟨by rfl, ?_⟩) hS ?_
  rotate_left 1
  · intro w hSw; (try dsimp only at hSw); go_simp <;> with_reducible rfl
  try simp only [List.getElem_toArray, List.getElem_cons_zero, List.getElem_cons_succ, Act.put, List.setIfInBounds_toArray, List.set_cons_zero, List.set_cons_succ]
  refine wpAnyH_take (i := 4) (v := ?_) rfl (by kernel_rfl) (by kernel_rfl) (by kernel_rfl) (fun _ _ _ h => h) (Or.inl ⟨by rfl, ?_⟩) hS ?_
  rotate_left 1
  · intro w hSw; (try dsimp only at hSw); go_simp <;> with_reducible rfl
  try simp only [List.getElem_toArray, List.getElem_cons_zero, List.getElem_cons_succ, Act.put, List.setIfInBounds_toArray, List.set_cons_zero, List.set_cons_succ]
  refine wpAnyH_take (i := 6) (v := _) rfl (by kernel_rfl) (by kernel_rfl) (by kernel_rfl) (fun _ _ _ h => h) (yieldsIf_load_mid (by rfl) 26 (.tmp 1) rfl gx 0 rfl X (.array 32 5) (fun w' h => range_of_arr (Arr.later Hgx.out h Lgx.out)) Tryd.underlying26 rfl (by rw [HXl.out]; exact size26)) hS ?_
  try simp only [List.getElem_toArray, List.getElem_cons_zero, List.getElem_cons_succ, Act.put, List.setIfInBounds_toArray, List.set_cons_zero, List.set_cons_succ]
  refine wpAnyH_ready (rs := [5]) (by kernel_rfl) (by simp) ?_
  refine AllReadyH.cons rfl (fun K hK => ?_) AllReadyH.nil
  go_simp
  refine Calls.mono (HHS.out _ hS) ?_
  rintro e wb ⟨rfl, hbb⟩
  have hS2 : Below w11.heap.size w11 wb := Below.trans hS (hbb.mono hS.size)
  clear hbb
  refine hK.out _ _ hS2 (fun hS => ?_)
  clear hK K hS2
  try simp only [List.getElem_toArray, List.getElem_cons_zero, List.getElem_cons_succ, Act.put, List.setIfInBounds_toArray, List.set_cons_zero, List.set_cons_succ]
  refine wpAnyH_take (i := 7) (v := ?_) rfl (by kernel_rfl) (by kernel_rfl) (by kernel_rfl) (fun _ _ _ h => h) (Or.inl ⟨by rfl, ?_⟩) hS ?_
  rotate_left 1
  · intro w hSw; (try dsimp only at hSw); go_simp <;> with_reducible rfl
  try simp only [List.getElem_toArray, List.getElem_cons_zero, List.getElem_cons_succ, Act.put, List.setIfInBounds_toArray, List.set_cons_zero, List.set_cons_succ]
  refine wpAnyH_take (i := 8) (v := ?_) rfl (by kernel_rfl) (by kernel_rfl) (by kernel_rfl) (fun _ _ _ h => h) (Or.inl ⟨by rfl, ?_⟩) hS ?_
  rotate_left 1
  · intro w hSw; (try dsimp only at hSw); go_simp <;> with_reducible rfl
  try simp only [List.getElem_toArray, List.getElem_cons_zero, List.getElem_cons_succ, Act.put, List.setIfInBounds_toArray, List.set_cons_zero, List.set_cons_succ]
  refine wpAnyH_take (i := 9) (v := ?_) rfl (by kernel_rfl) (by kernel_rfl) (by kernel_rfl) (fun _ _ _ h => h) (Or.inl ⟨by rfl, ?_⟩) hS ?_
  rotate_left 1
  · intro w hSw; (try dsimp only at hSw); go_simp <;> with_reducible rfl
  try simp only [List.getElem_toArray, List.getElem_cons_zero, List.getElem_cons_succ, Act.put, List.setIfInBounds_toArray, List.set_cons_zero, List.set_cons_succ]
  refine wpAnyH_take (i := 10) (v := ?_) rfl (by kernel_rfl) (by kernel_rfl) (by kernel_rfl) (fun _ _ _ h => h) (Or.inl ⟨by rfl, ?_⟩) hS ?_
  rotate_left 1
  · intro w hSw; (try dsimp only at hSw); go_simp <;> with_reducible rfl
  try simp only [List.getElem_toArray, List.getElem_cons_zero, List.getElem_cons_succ, Act.put, List.setIfInBounds_toArray, List.set_cons_zero, List.set_cons_succ]
  refine wpAnyH_take (i := 11) (v := ?_) rfl (by kernel_rfl) (by kernel_rfl) (by kernel_rfl) (fun _ _ _ h => h) (Or.inl ⟨by rfl, ?_⟩) hS ?_
  rotate_left 1
  · intro w hSw; (try dsimp only at hSw); go_simp <;> with_reducible rfl
  try simp only [List.getElem_toArray, List.getElem_cons_zero, List.getElem_cons_succ, Act.put, List.setIfInBounds_toArray, List.set_cons_zero, List.set_cons_succ]
  refine wpAnyH_take (i := 12) (v := ?_) rfl (by kernel_rfl) (by kernel_rfl) (by kernel_rfl) (fun _ _ _ h => h) (Or.inl ⟨by rfl, ?_⟩) hS ?_
  rotate_left 1
  · intro w hSw; (try dsimp only at hSw); go_simp <;> with_reducible rfl
  try simp only [List.getElem_toArray, List.getElem_cons_zero, List.getElem_cons_succ, Act.put, List.setIfInBounds_toArray, List.set_cons_zero, List.set_cons_succ]
  refine wpAnyH_take (i := 13) (v := _) rfl (by kernel_rfl) (by kernel_rfl) (by kernel_rfl) (fun _ _ _ h => h) (yieldsIf_load_mid (by rfl) 26 (.tmp 3) rfl gy 0 rfl X (.array 32 5) (fun w' h => range_of_arr (Arr.later Hgy.out h Lgy.out)) Tryd.underlying26 rfl (by rw [HXl.out]; exact size26)) hS ?_
  try simp only [List.getElem_toArray, List.getElem_cons_zero, List.getElem_cons_succ, Act.put, List.setIfInBounds_toArray, List.set_cons_zero, List.set_cons_succ]
  refine wpAnyH_take (i := 14) (v := _) rfl (by kernel_rfl) (by kernel_rfl) (by kernel_rfl) (fun _ _ _ h => h) (yieldsIf_load_mid (by rfl) 26 (.tmp 1) rfl gx 0 rfl X (.array 32 5) (fun w' h => range_of_arr (Arr.later Hgx.out h Lgx.out)) Tryd.underlying26 rfl (by rw [HXl.out]; exact size26)) hS ?_
  try simp only [List.getElem_toArray, List.getElem_cons_zero, List.getElem_cons_succ, Act.put, List.setIfInBounds_toArray, List.set_cons_zero, List.set_cons_succ]
  refine wpAnyH_take (i := 15) (v := ?_) rfl (by kernel_rfl) (by kernel_rfl) (by kernel_rfl) (fun _ _ _ h => h) (Or.inl ⟨by rfl, ?_⟩) hS ?_
  rotate_left 1
  · intro w hSw; (try dsimp only at hSw); go_simp <;> with_reducible rfl
  try simp only [List.getElem_toArray, List.getElem_cons_zero, List.getElem_cons_succ, Act.put, List.setIfInBounds_toArray, List.set_cons_zero, List.set_cons_succ]
  refine wpAnyH_take (i := 16) (v := ?_) rfl (by kernel_rfl) (by kernel_rfl) (by kernel_rfl) (fun _ _ _ h => h) (Or.inl ⟨by rfl, ?_⟩) hS ?_
  rotate_left 1
  · intro w hSw; (try dsimp only at hSw); go_simp <;> with_reducible rfl
  try simp only [List.getElem_toArray, List.getElem_cons_zero, List.getElem_cons_succ, Act.put, List.setIfInBounds_toArray, List.set_cons_zero, List.set_cons_succ]
  refine wpAnyH_take (i := 17) (v := ?_) rfl (by kernel_rfl) (by kernel_rfl) (by kernel_rfl) (fun _ _ _ h => h) (Or.inl ⟨by rfl, ?_⟩) hS ?_
  rotate_left 1
  · intro w hSw; (try dsimp only at hSw); go_simp <;> with_reducible rfl
  try simp only [List.getElem_toArray, List.getElem_cons_zero, List.getElem_cons_succ, Act.put, List.setIfInBounds_toArray, List.set_cons_zero, List.set_cons_succ]
  refine wpAnyH_take (i := 18) (v := _) rfl (by kernel_rfl) (by kernel_rfl) (by kernel_rfl) (fun _ _ _ h => h) (yieldsIf_load_mid (by rfl) 26 (.tmp 1) rfl gx 0 rfl X (.array 32 5) (fun w' h => range_of_arr (Arr.later Hgx.out h Lgx.out)) Tryd.underlying26 rfl (by rw [HXl.out]; exact size26)) hS ?_
  try simp only [List.getElem_toArray, List.getElem_cons_zero, List.getElem_cons_succ, Act.put, List.setIfInBounds_toArray, List.set_cons_zero, List.set_cons_succ]
  refine wpAnyH_ready (rs := [19]) (by kernel_rfl) (by simp) ?_
  refine AllReadyH.cons rfl (fun K hK => ?_) AllReadyH.nil
  go_simp
  refine Calls.mono (HSN.out _ hS) ?_
  rintro e wc ⟨rfl, hbc⟩
  have hS2 : Below w11.heap.size w11 wc := Below.trans hS (hbc.mono hS.size)
  clear hbc
  refine hK.out _ _ hS2 (fun hS => ?_)
  clear hK K hS2
  try simp only [List.getElem_toArray, List.getElem_cons_zero, List.getElem_cons_succ, Act.put, List.setIfInBounds_toArray, List.set_cons_zero, List.set_cons_succ]
  refine wpAnyH_ready (rs := [20]) (by kernel_rfl) (by simp) ?_
  refine AllReadyH.cons rfl (fun K hK => ?_) AllReadyH.nil
  go_simp
  refine Calls.mono (HLS.out _) ?_
  rintro e wd ⟨rfl, hbd⟩
  have hS2 : Below w11.heap.size w11 wd := Below.trans hS (hbd.mono hS.size)
  clear hbd
  refine hK.out _ _ hS2 (fun hS => ?_)
  clear hK K hS2
  try simp only [List.getElem_toArray, List.getElem_cons_zero, List.getElem_cons_succ, Act.put, List.setIfInBounds_toArray, List.set_cons_zero, List.set_cons_succ]
  refine wpAnyH_take (i := 21) (v := ?_) rfl (by kernel_rfl) (by kernel_rfl) (by kernel_rfl) (fun _ _ _ h => h) (Or.inl ⟨by rfl, ?_⟩) hS ?_
  rotate_left 1
  · intro w hSw; (try dsimp only at hSw); go_simp <;> with_reducible rfl
  try simp only [List.getElem_toArray, List.getElem_cons_zero, List.getElem_cons_succ, Act.put, List.setIfInBounds_toArray, List.set_cons_zero, List.set_cons_succ]
  refine wpAnyH_take (i := 22) (v := ?_) rfl (by kernel_rfl) (by kernel_rfl) (by kernel_rfl) (fun _ _ _ h => h) (Or.inl ⟨by rfl, ?_⟩) hS ?_
  rotate_left 1
  · intro w hSw; (try dsimp only at hSw); go_simp <;> with_reducible rfl
  try simp only [List.getElem_toArray, List.getElem_cons_zero, List.getElem_cons_succ, Act.put, List.setIfInBounds_toArray, List.set_cons_zero, List.set_cons_succ]
  refine wpAnyH_done (by kernel_rfl) ?_ _
  go_wp2
  go_ret
  exact ⟨rfl, HB11.out.trans (hS.mono HB11.out.size)⟩

end Go.Proofs.YtfgpoclflikhmaaDoor

/-
  Walk of newsreellaw5.AddrBytes, one of four.
-/
import Derived.Test.YtmdpakkldapciaaDoorL5BytesM
namespace Go.Proofs.YtmdpakkldapciaaDoor
open Go.RowKit NumMath
open AddrMath (parse plain meant escape hexD)
set_option maxRecDepth 100000
set_option linter.unusedVariables false
set_option linter.unusedSimpArgs false

set_option maxRecDepth 100000 in
set_option maxHeartbeats 16000000 in
theorem addrBytes_TT (n0 : Int) (W : World) (ht : MaxLen W) (w0 : (Lit.int .u8 n0).wf = true) :
    Calls Tryd.prog 8 #[.int .u8 n0, .bool true, .bool true] W fun e W' => e = .returned (.bool true) ∧ Below W.heap.size W W' := by
  have hb0 := bounds_u8 w0
  obtain ⟨b, rfl⟩ : ∃ n : Nat, n0 = (n : Int) := ⟨n0.toNat, by omega⟩
  have hb : b < 256 := by omega
  have HT : Hid _ := ht
  have HK : Hid _ := known_any W ht
  clear w0 ht hb0
  have hmath := bytes_math true true b hb
  have hml : meant b = if plain b then [b] else escape b := rfl
  obtain ⟨x97, x122, x65, x90, x48, x57, x45, x46, x95, x126, h97, h122, h65, h90, h48, h57, h45, h46, h95, h126, hpl, hcls⟩ := byte_class b hb
  have HE : escape b = [37, hexD (b / 16), hexD (b % 16)] := rfl
  have hsd : saidL true b = if true then [37, hexS (b / 16), hexS (b % 16)] else [37, hexD (b / 16), hexD (b % 16)] := rfl
  obtain ⟨p, hp, hpe⟩ : ∃ p : Nat, (b : Int) / 16 = (p : Int) ∧ p = b / 16 := ⟨b / 16, by omega, rfl⟩
  obtain ⟨q, hq, hqe⟩ : ∃ q : Nat, bits .and .u8 (b : Int) 15 = (q : Int) ∧ q = b % 16 := ⟨b % 16, and15b b hb, rfl⟩
  have hp16 : p < 16 := by omega
  have hq16 : q < 16 := by omega
  rw [← hpe, ← hqe] at HE hsd
  clear hpe hqe
  have hw1 : IntKind.u8.wrap ((p : Int) + 1) = (p : Int) + 1 := by simp [IntKind.wrap, IntKind.bits, IntKind.signed]; omega
  have hw2 : IntKind.u8.wrap ((q : Int) + 1) = (q : Int) + 1 := by simp [IntKind.wrap, IntKind.bits, IntKind.signed]; omega
  have hs1 : ∀ w, (Instr.sliceAt 9 (.string ⟨#[48, 49, 50, 51, 52, 53, 54, 55, 56, 57, 65, 66, 67, 68, 69, 70]⟩) (some (.int .u8 (p : Int))) (some (.int .u8 ((p : Int) + 1))) none).run Tryd.prog w = .ok (.string (strN [hexD p])) w := by
    intro w
    have := run_slice_strN (w := w) digitsU .u8 .u8 p (p + 1) (by omega) (by show p + 1 ≤ 16; omega)
    rw [digitsU_at ⟨p, hp16⟩] at this
    exact this
  have hs2 : ∀ w, (Instr.sliceAt 9 (.string ⟨#[48, 49, 50, 51, 52, 53, 54, 55, 56, 57, 65, 66, 67, 68, 69, 70]⟩) (some (.int .u8 (q : Int))) (some (.int .u8 ((q : Int) + 1))) none).run Tryd.prog w = .ok (.string (strN [hexD q])) w := by
    intro w
    have := run_slice_strN (w := w) digitsU .u8 .u8 q (q + 1) (by omega) (by show q + 1 ≤ 16; omega)
    rw [digitsU_at ⟨q, hq16⟩] at this
    exact this
  have hs3 : ∀ w, (Instr.sliceAt 9 (.string ⟨#[48, 49, 50, 51, 52, 53, 54, 55, 56, 57, 97, 98, 99, 100, 101, 102]⟩) (some (.int .u8 (p : Int))) (some (.int .u8 ((p : Int) + 1))) none).run Tryd.prog w = .ok (.string (strN [hexS p])) w := by
    intro w
    have := run_slice_strN (w := w) digitsS .u8 .u8 p (p + 1) (by omega) (by show p + 1 ≤ 16; omega)
    rw [digitsS_at ⟨p, hp16⟩] at this
    exact this
  have hs4 : ∀ w, (Instr.sliceAt 9 (.string ⟨#[48, 49, 50, 51, 52, 53, 54, 55, 56, 57, 97, 98, 99, 100, 101, 102]⟩) (some (.int .u8 (q : Int))) (some (.int .u8 ((q : Int) + 1))) none).run Tryd.prog w = .ok (.string (strN [hexS q])) w := by
    intro w
    have := run_slice_strN (w := w) digitsS .u8 .u8 q (q + 1) (by omega) (by show q + 1 ≤ 16; omega)
    rw [digitsS_at ⟨q, hq16⟩] at this
    exact this
  have hdp := hexS_lt ⟨p, hp16⟩
  have hdq := hexS_lt ⟨q, hq16⟩
  simp only at hdp hdq
  have hc1 : ∀ w, (Op.stringOp BinOp.add ⟨#[37]⟩ (strN [hexD p])).run Tryd.prog w = .ok (.string (strN [37, hexD p])) w := sum_strN [37] [hexD p] (by simp)
  have hc3 : ∀ w, (Op.stringOp BinOp.add ⟨#[37]⟩ (strN [hexS p])).run Tryd.prog w = .ok (.string (strN [37, hexS p])) w := sum_strN [37] [hexS p] (by simp)
  obtain ⟨Eb, hEb⟩ : ∃ x, x = [37, hexD p, hexD q] := ⟨_, rfl⟩
  obtain ⟨Es, hEs⟩ : ∃ x, x = [37, hexS p, hexS q] := ⟨_, rfl⟩
  have hc2 : ∀ w, (Op.stringOp BinOp.add (strN [37, hexD p]) (strN [hexD q])).run Tryd.prog w = .ok (.string (strN Eb)) w := by rw [hEb]; exact sum_strN [37, hexD p] [hexD q] (by simp)
  have hc4 : ∀ w, (Op.stringOp BinOp.add (strN [37, hexS p]) (strN [hexS q])).run Tryd.prog w = .ok (.string (strN Es)) w := by rw [hEs]; exact sum_strN [37, hexS p] [hexS q] (by simp)
  have hEbb : ∀ c ∈ Eb, c < 256 := by rw [hEb]; intro c hc; simp at hc; omega
  have hEsb : ∀ c ∈ Es, c < 256 := by rw [hEs]; intro c hc; simp at hc; omega
  have hEbl : Eb.length = 3 := by rw [hEb]; rfl
  have hEsl : Es.length = 3 := by rw [hEs]; rfl
  rw [← hEb] at HE hsd
  rw [← hEs] at hsd
  rw [HE] at hml
  rw [hml, hsd] at hmath
  clear hEb hEs HE hml hsd hdp hdq
  generalize hexD p = dp at *
  generalize hexD q = dq at *
  generalize hexS p = sp at *
  generalize hexS q = sq at *
  obtain ⟨hd, hhd⟩ : ∃ x, x = ([104, 116, 116, 112, 58, 47, 47, 97, 46, 98, 47, 120, 63] : List Nat) := ⟨_, rfl⟩
  have hmath2 : parse (hd ++ (Es ++ [121])) = (hd ++ ((if plain b then [b] else Eb) ++ [121]), 0) := by rw [hhd]; exact hmath
  have hhdb : ∀ c ∈ hd, c < 256 := by rw [hhd]; decide
  have hhdl : hd.length ≤ 13 := by rw [hhd]; decide
  obtain ⟨X1, hX1⟩ : ∃ x, x = hd ++ Es := ⟨_, rfl⟩
  obtain ⟨X2, hX2⟩ : ∃ x, x = X1 ++ [121] := ⟨_, rfl⟩
  obtain ⟨Z1, hZ1⟩ : ∃ x, x = hd ++ [b] := ⟨_, rfl⟩
  obtain ⟨Z2, hZ2⟩ : ∃ x, x = Z1 ++ [121] := ⟨_, rfl⟩
  obtain ⟨Y1, hY1⟩ : ∃ x, x = hd ++ Eb := ⟨_, rfl⟩
  obtain ⟨Y2, hY2⟩ : ∃ x, x = Y1 ++ [121] := ⟨_, rfl⟩
  have kX1 : ∀ w, (Op.stringOp BinOp.add ⟨#[104, 116, 116, 112, 58, 47, 47, 97, 46, 98, 47, 120, 63]⟩ (strN Es)).run Tryd.prog w = .ok (.string (strN X1)) w := by
    have := fun w => sum_strN (w := w) hd Es (by first | omega | (simp; omega))
    rw [← hX1, hhd] at this
    exact this
  have kZ1 : ∀ w, (Op.stringOp BinOp.add ⟨#[104, 116, 116, 112, 58, 47, 47, 97, 46, 98, 47, 120, 63]⟩ (strN [b])).run Tryd.prog w = .ok (.string (strN Z1)) w := by
    have := fun w => sum_strN (w := w) hd [b] (by first | omega | (simp; omega))
    rw [← hZ1, hhd] at this
    exact this
  have kY1 : ∀ w, (Op.stringOp BinOp.add ⟨#[104, 116, 116, 112, 58, 47, 47, 97, 46, 98, 47, 120, 63]⟩ (strN Eb)).run Tryd.prog w = .ok (.string (strN Y1)) w := by
    have := fun w => sum_strN (w := w) hd Eb (by first | omega | (simp; omega))
    rw [← hY1, hhd] at this
    exact this
  have kX2 : ∀ w, (Op.stringOp BinOp.add (strN X1) ⟨#[121]⟩).run Tryd.prog w = .ok (.string (strN X2)) w := by
    have := fun w => sum_strN (w := w) X1 [121] (by rw [hX1]; simp; omega)
    rw [← hX2] at this
    exact this
  have kZ2 : ∀ w, (Op.stringOp BinOp.add (strN Z1) ⟨#[121]⟩).run Tryd.prog w = .ok (.string (strN Z2)) w := by
    have := fun w => sum_strN (w := w) Z1 [121] (by rw [hZ1]; simp; omega)
    rw [← hZ2] at this
    exact this
  have kY2 : ∀ w, (Op.stringOp BinOp.add (strN Y1) ⟨#[121]⟩).run Tryd.prog w = .ok (.string (strN Y2)) w := by
    have := fun w => sum_strN (w := w) Y1 [121] (by rw [hY1]; simp; omega)
    rw [← hY2] at this
    exact this
  have hX2b : ∀ c ∈ X2, c < 256 := by rw [hX2, hX1]; exact app_lt (app_lt hhdb hEsb) (by decide)
  have hZ1b : ∀ c ∈ Z1, c < 256 := by rw [hZ1]; exact app_lt hhdb (by intro c hc; simp at hc; omega)
  have hZ2b : ∀ c ∈ Z2, c < 256 := by rw [hZ2]; exact app_lt hZ1b (by decide)
  have HPz1 : Hid (∀ w, MaxLen w → _) := fun w ht => parses_any Z1 w ht hZ1b (by rw [hZ1]; simp; omega)
  have HPz2 : Hid (∀ w, MaxLen w → _) := fun w ht => parses_any Z2 w ht hZ2b (by rw [hZ2, hZ1]; simp; omega)
  have HPx : Hid (∀ w, MaxLen w → Calls Tryd.prog 15 #[.string (strN X2)] w fun e w' => e = .returned (.tuple #[.string (strN (if plain b then Z2 else Y2)), .int .i64 0]) ∧ Below w.heap.size w w') := by
    intro w ht
    refine parse_at X2 _ 0 w ht hX2b (by rw [hX2, hX1]; simp; omega) ?_
    rw [hX2, hX1, List.append_assoc, hmath2]
    cases plain b
    · simp [hY2, hY1]
    · simp [hZ2, hZ1]
  have hzz : ((strN Z2).toList == (strN Z2).toList) = true := by simp
  have hyy : ((strN Y2).toList == (strN Y2).toList) = true := by simp
  clear hmath hmath2 hhd hhdb hhdl hX1 hX2 hZ1 hZ2 hY1 hY2 hX2b hZ1b hZ2b hEbb hEsb hEbl hEsl
  go_enter Tryd.func8, Tryd.ntmps8
  go_wp2_with fail
  refine Calls.mono HK.out ?_
  rintro e w1 ⟨rfl, hb1⟩
  have HB1 : Hid _ := hb1
  clear hb1
  go_wp2
  go_quiet (fail)
  have HB2 : Hid (Below W.heap.size W (w1.drewN nq)) := Below.drewN HB1.out _
  generalize w1.drewN nq = w2 at *
  go_wp2
  go_quiet (fail)
  have HB2b : Hid (Below W.heap.size W (w2.drewN nq)) := Below.drewN HB2.out _
  generalize w2.drewN nq = w2b at *
  simp only [List.mem_cons, List.not_mem_nil, or_false, Prod.mk.injEq] at hcls
  rcases hcls with ⟨rfl, rfl, rfl, rfl, rfl, rfl, rfl, rfl, rfl, rfl⟩ | ⟨rfl, rfl, rfl, rfl, rfl, rfl, rfl, rfl, rfl, rfl⟩ | ⟨rfl, rfl, rfl, rfl, rfl, rfl, rfl, rfl, rfl, rfl⟩ | ⟨rfl, rfl, rfl, rfl, rfl, rfl, rfl, rfl, rfl, rfl⟩ | ⟨rfl, rfl, rfl, rfl, rfl, rfl, rfl, rfl, rfl, rfl⟩ | ⟨rfl, rfl, rfl, rfl, rfl, rfl, rfl, rfl, rfl, rfl⟩ | ⟨rfl, rfl, rfl, rfl, rfl, rfl, rfl, rfl, rfl, rfl⟩ | ⟨rfl, rfl, rfl, rfl, rfl, rfl, rfl, rfl, rfl, rfl⟩ | ⟨rfl, rfl, rfl, rfl, rfl, rfl, rfl, rfl, rfl, rfl⟩ | ⟨rfl, rfl, rfl, rfl, rfl, rfl, rfl, rfl, rfl, rfl⟩ | ⟨rfl, rfl, rfl, rfl, rfl, rfl, rfl, rfl, rfl, rfl⟩
  · have hpl2 : plain b = false := hpl
    rw [hpl2] at HPx
    have HPx2 : Hid (∀ w, MaxLen w → Calls Tryd.prog 15 #[.string (strN X2)] w fun e w' => e = .returned (.tuple #[.string (strN Y2), .int .i64 0]) ∧ Below w.heap.size w w') := HPx.out
    clear HPx hpl hpl2
    go_wp2_with fail
    refine Calls.mono (HPx2.out _ (MaxLen.later HT.out HB2b.out)) ?_
    rintro e w3 ⟨rfl, hb3⟩
    have HB3 : Hid _ := HB2b.out.trans (hb3.mono HB2b.out.size)
    clear hb3
    have hos := one_string b w3
    have HB4 : Hid (Below W.heap.size W (w3.alloc (Obj.cells #[.int .u8 (b : Int)] 5))) := HB3.out.alloc HB3.out.size _
    go_wp2_with fail
    refine Calls.mono (HPz2.out _ (MaxLen.later HT.out HB4.out)) ?_
    rintro e w6 ⟨rfl, hb6⟩
    have HB6 : Hid _ := HB4.out.trans (hb6.mono HB4.out.size)
    clear hb6
    have hos3 := one_string b w6
    have HB7 : Hid (Below W.heap.size W (w6.alloc (Obj.cells #[.int .u8 (b : Int)] 5))) := HB6.out.alloc HB6.out.size _
    go_wp2_with fail
    refine Calls.mono (HPz1.out _ (MaxLen.later HT.out HB7.out)) ?_
    rintro e w8 ⟨rfl, hb8⟩
    have HB8 : Hid _ := HB7.out.trans (hb8.mono HB7.out.size)
    clear hb8
    go_wp2
    go_ret
    exact ⟨rfl, HB8.out⟩
  · have hpl2 : plain b = true := hpl
    rw [hpl2] at HPx
    have HPx2 : Hid (∀ w, MaxLen w → Calls Tryd.prog 15 #[.string (strN X2)] w fun e w' => e = .returned (.tuple #[.string (strN Z2), .int .i64 0]) ∧ Below w.heap.size w w') := HPx.out
    clear HPx hpl hpl2
    go_wp2_with fail
    refine Calls.mono (HPx2.out _ (MaxLen.later HT.out HB2b.out)) ?_
    rintro e w3 ⟨rfl, hb3⟩
    have HB3 : Hid _ := HB2b.out.trans (hb3.mono HB2b.out.size)
    clear hb3
    have hos := one_string b w3
    have HB4 : Hid (Below W.heap.size W (w3.alloc (Obj.cells #[.int .u8 (b : Int)] 5))) := HB3.out.alloc HB3.out.size _
    have hos2 := one_string b (w3.alloc (Obj.cells #[.int .u8 (b : Int)] 5))
    rw [show (w3.alloc (Obj.cells #[.int .u8 (b : Int)] 5)).heap.size = w3.heap.size + 1 by simp] at hos2
    have HB5 : Hid (Below W.heap.size W ((w3.alloc (Obj.cells #[.int .u8 (b : Int)] 5)).alloc (Obj.cells #[.int .u8 (b : Int)] 5))) := HB4.out.alloc HB4.out.size _
    go_wp2_with fail
    refine Calls.mono (HPz2.out _ (MaxLen.later HT.out HB5.out)) ?_
    rintro e w6 ⟨rfl, hb6⟩
    have HB6 : Hid _ := HB5.out.trans (hb6.mono HB5.out.size)
    clear hb6
    have hos3 := one_string b w6
    have HB7 : Hid (Below W.heap.size W (w6.alloc (Obj.cells #[.int .u8 (b : Int)] 5))) := HB6.out.alloc HB6.out.size _
    go_wp2_with fail
    refine Calls.mono (HPz1.out _ (MaxLen.later HT.out HB7.out)) ?_
    rintro e w8 ⟨rfl, hb8⟩
    have HB8 : Hid _ := HB7.out.trans (hb8.mono HB7.out.size)
    clear hb8
    go_wp2
    go_ret
    exact ⟨rfl, HB8.out⟩
  · have hpl2 : plain b = true := hpl
    rw [hpl2] at HPx
    have HPx2 : Hid (∀ w, MaxLen w → Calls Tryd.prog 15 #[.string (strN X2)] w fun e w' => e = .returned (.tuple #[.string (strN Z2), .int .i64 0]) ∧ Below w.heap.size w w') := HPx.out
    clear HPx hpl hpl2
    go_wp2_with fail
    refine Calls.mono (HPx2.out _ (MaxLen.later HT.out HB2b.out)) ?_
    rintro e w3 ⟨rfl, hb3⟩
    have HB3 : Hid _ := HB2b.out.trans (hb3.mono HB2b.out.size)
    clear hb3
    have hos := one_string b w3
    have HB4 : Hid (Below W.heap.size W (w3.alloc (Obj.cells #[.int .u8 (b : Int)] 5))) := HB3.out.alloc HB3.out.size _
    have hos2 := one_string b (w3.alloc (Obj.cells #[.int .u8 (b : Int)] 5))
    rw [show (w3.alloc (Obj.cells #[.int .u8 (b : Int)] 5)).heap.size = w3.heap.size + 1 by simp] at hos2
    have HB5 : Hid (Below W.heap.size W ((w3.alloc (Obj.cells #[.int .u8 (b : Int)] 5)).alloc (Obj.cells #[.int .u8 (b : Int)] 5))) := HB4.out.alloc HB4.out.size _
    go_wp2_with fail
    refine Calls.mono (HPz2.out _ (MaxLen.later HT.out HB5.out)) ?_
    rintro e w6 ⟨rfl, hb6⟩
    have HB6 : Hid _ := HB5.out.trans (hb6.mono HB5.out.size)
    clear hb6
    have hos3 := one_string b w6
    have HB7 : Hid (Below W.heap.size W (w6.alloc (Obj.cells #[.int .u8 (b : Int)] 5))) := HB6.out.alloc HB6.out.size _
    go_wp2_with fail
    refine Calls.mono (HPz1.out _ (MaxLen.later HT.out HB7.out)) ?_
    rintro e w8 ⟨rfl, hb8⟩
    have HB8 : Hid _ := HB7.out.trans (hb8.mono HB7.out.size)
    clear hb8
    go_wp2
    go_ret
    exact ⟨rfl, HB8.out⟩
  · have hpl2 : plain b = true := hpl
    rw [hpl2] at HPx
    have HPx2 : Hid (∀ w, MaxLen w → Calls Tryd.prog 15 #[.string (strN X2)] w fun e w' => e = .returned (.tuple #[.string (strN Z2), .int .i64 0]) ∧ Below w.heap.size w w') := HPx.out
    clear HPx hpl hpl2
    go_wp2_with fail
    refine Calls.mono (HPx2.out _ (MaxLen.later HT.out HB2b.out)) ?_
    rintro e w3 ⟨rfl, hb3⟩
    have HB3 : Hid _ := HB2b.out.trans (hb3.mono HB2b.out.size)
    clear hb3
    have hos := one_string b w3
    have HB4 : Hid (Below W.heap.size W (w3.alloc (Obj.cells #[.int .u8 (b : Int)] 5))) := HB3.out.alloc HB3.out.size _
    have hos2 := one_string b (w3.alloc (Obj.cells #[.int .u8 (b : Int)] 5))
    rw [show (w3.alloc (Obj.cells #[.int .u8 (b : Int)] 5)).heap.size = w3.heap.size + 1 by simp] at hos2
    have HB5 : Hid (Below W.heap.size W ((w3.alloc (Obj.cells #[.int .u8 (b : Int)] 5)).alloc (Obj.cells #[.int .u8 (b : Int)] 5))) := HB4.out.alloc HB4.out.size _
    go_wp2_with fail
    refine Calls.mono (HPz2.out _ (MaxLen.later HT.out HB5.out)) ?_
    rintro e w6 ⟨rfl, hb6⟩
    have HB6 : Hid _ := HB5.out.trans (hb6.mono HB5.out.size)
    clear hb6
    have hos3 := one_string b w6
    have HB7 : Hid (Below W.heap.size W (w6.alloc (Obj.cells #[.int .u8 (b : Int)] 5))) := HB6.out.alloc HB6.out.size _
    go_wp2_with fail
    refine Calls.mono (HPz1.out _ (MaxLen.later HT.out HB7.out)) ?_
    rintro e w8 ⟨rfl, hb8⟩
    have HB8 : Hid _ := HB7.out.trans (hb8.mono HB7.out.size)
    clear hb8
    go_wp2
    go_ret
    exact ⟨rfl, HB8.out⟩
  · have hpl2 : plain b = false := hpl
    rw [hpl2] at HPx
    have HPx2 : Hid (∀ w, MaxLen w → Calls Tryd.prog 15 #[.string (strN X2)] w fun e w' => e = .returned (.tuple #[.string (strN Y2), .int .i64 0]) ∧ Below w.heap.size w w') := HPx.out
    clear HPx hpl hpl2
    go_wp2_with fail
    refine Calls.mono (HPx2.out _ (MaxLen.later HT.out HB2b.out)) ?_
    rintro e w3 ⟨rfl, hb3⟩
    have HB3 : Hid _ := HB2b.out.trans (hb3.mono HB2b.out.size)
    clear hb3
    have hos := one_string b w3
    have HB4 : Hid (Below W.heap.size W (w3.alloc (Obj.cells #[.int .u8 (b : Int)] 5))) := HB3.out.alloc HB3.out.size _
    go_wp2_with fail
    refine Calls.mono (HPz2.out _ (MaxLen.later HT.out HB4.out)) ?_
    rintro e w6 ⟨rfl, hb6⟩
    have HB6 : Hid _ := HB4.out.trans (hb6.mono HB4.out.size)
    clear hb6
    have hos3 := one_string b w6
    have HB7 : Hid (Below W.heap.size W (w6.alloc (Obj.cells #[.int .u8 (b : Int)] 5))) := HB6.out.alloc HB6.out.size _
    go_wp2_with fail
    refine Calls.mono (HPz1.out _ (MaxLen.later HT.out HB7.out)) ?_
    rintro e w8 ⟨rfl, hb8⟩
    have HB8 : Hid _ := HB7.out.trans (hb8.mono HB7.out.size)
    clear hb8
    go_wp2
    go_ret
    exact ⟨rfl, HB8.out⟩
  · have hpl2 : plain b = true := hpl
    rw [hpl2] at HPx
    have HPx2 : Hid (∀ w, MaxLen w → Calls Tryd.prog 15 #[.string (strN X2)] w fun e w' => e = .returned (.tuple #[.string (strN Z2), .int .i64 0]) ∧ Below w.heap.size w w') := HPx.out
    clear HPx hpl hpl2
    go_wp2_with fail
    refine Calls.mono (HPx2.out _ (MaxLen.later HT.out HB2b.out)) ?_
    rintro e w3 ⟨rfl, hb3⟩
    have HB3 : Hid _ := HB2b.out.trans (hb3.mono HB2b.out.size)
    clear hb3
    have hos := one_string b w3
    have HB4 : Hid (Below W.heap.size W (w3.alloc (Obj.cells #[.int .u8 (b : Int)] 5))) := HB3.out.alloc HB3.out.size _
    have hos2 := one_string b (w3.alloc (Obj.cells #[.int .u8 (b : Int)] 5))
    rw [show (w3.alloc (Obj.cells #[.int .u8 (b : Int)] 5)).heap.size = w3.heap.size + 1 by simp] at hos2
    have HB5 : Hid (Below W.heap.size W ((w3.alloc (Obj.cells #[.int .u8 (b : Int)] 5)).alloc (Obj.cells #[.int .u8 (b : Int)] 5))) := HB4.out.alloc HB4.out.size _
    go_wp2_with fail
    refine Calls.mono (HPz2.out _ (MaxLen.later HT.out HB5.out)) ?_
    rintro e w6 ⟨rfl, hb6⟩
    have HB6 : Hid _ := HB5.out.trans (hb6.mono HB5.out.size)
    clear hb6
    have hos3 := one_string b w6
    have HB7 : Hid (Below W.heap.size W (w6.alloc (Obj.cells #[.int .u8 (b : Int)] 5))) := HB6.out.alloc HB6.out.size _
    go_wp2_with fail
    refine Calls.mono (HPz1.out _ (MaxLen.later HT.out HB7.out)) ?_
    rintro e w8 ⟨rfl, hb8⟩
    have HB8 : Hid _ := HB7.out.trans (hb8.mono HB7.out.size)
    clear hb8
    go_wp2
    go_ret
    exact ⟨rfl, HB8.out⟩
  · have hpl2 : plain b = false := hpl
    rw [hpl2] at HPx
    have HPx2 : Hid (∀ w, MaxLen w → Calls Tryd.prog 15 #[.string (strN X2)] w fun e w' => e = .returned (.tuple #[.string (strN Y2), .int .i64 0]) ∧ Below w.heap.size w w') := HPx.out
    clear HPx hpl hpl2
    go_wp2_with fail
    refine Calls.mono (HPx2.out _ (MaxLen.later HT.out HB2b.out)) ?_
    rintro e w3 ⟨rfl, hb3⟩
    have HB3 : Hid _ := HB2b.out.trans (hb3.mono HB2b.out.size)
    clear hb3
    have hos := one_string b w3
    have HB4 : Hid (Below W.heap.size W (w3.alloc (Obj.cells #[.int .u8 (b : Int)] 5))) := HB3.out.alloc HB3.out.size _
    go_wp2_with fail
    refine Calls.mono (HPz2.out _ (MaxLen.later HT.out HB4.out)) ?_
    rintro e w6 ⟨rfl, hb6⟩
    have HB6 : Hid _ := HB4.out.trans (hb6.mono HB4.out.size)
    clear hb6
    have hos3 := one_string b w6
    have HB7 : Hid (Below W.heap.size W (w6.alloc (Obj.cells #[.int .u8 (b : Int)] 5))) := HB6.out.alloc HB6.out.size _
    go_wp2_with fail
    refine Calls.mono (HPz1.out _ (MaxLen.later HT.out HB7.out)) ?_
    rintro e w8 ⟨rfl, hb8⟩
    have HB8 : Hid _ := HB7.out.trans (hb8.mono HB7.out.size)
    clear hb8
    go_wp2
    go_ret
    exact ⟨rfl, HB8.out⟩
  · have hpl2 : plain b = true := hpl
    rw [hpl2] at HPx
    have HPx2 : Hid (∀ w, MaxLen w → Calls Tryd.prog 15 #[.string (strN X2)] w fun e w' => e = .returned (.tuple #[.string (strN Z2), .int .i64 0]) ∧ Below w.heap.size w w') := HPx.out
    clear HPx hpl hpl2
    go_wp2_with fail
    refine Calls.mono (HPx2.out _ (MaxLen.later HT.out HB2b.out)) ?_
    rintro e w3 ⟨rfl, hb3⟩
    have HB3 : Hid _ := HB2b.out.trans (hb3.mono HB2b.out.size)
    clear hb3
    have hos := one_string b w3
    have HB4 : Hid (Below W.heap.size W (w3.alloc (Obj.cells #[.int .u8 (b : Int)] 5))) := HB3.out.alloc HB3.out.size _
    have hos2 := one_string b (w3.alloc (Obj.cells #[.int .u8 (b : Int)] 5))
    rw [show (w3.alloc (Obj.cells #[.int .u8 (b : Int)] 5)).heap.size = w3.heap.size + 1 by simp] at hos2
    have HB5 : Hid (Below W.heap.size W ((w3.alloc (Obj.cells #[.int .u8 (b : Int)] 5)).alloc (Obj.cells #[.int .u8 (b : Int)] 5))) := HB4.out.alloc HB4.out.size _
    go_wp2_with fail
    refine Calls.mono (HPz2.out _ (MaxLen.later HT.out HB5.out)) ?_
    rintro e w6 ⟨rfl, hb6⟩
    have HB6 : Hid _ := HB5.out.trans (hb6.mono HB5.out.size)
    clear hb6
    have hos3 := one_string b w6
    have HB7 : Hid (Below W.heap.size W (w6.alloc (Obj.cells #[.int .u8 (b : Int)] 5))) := HB6.out.alloc HB6.out.size _
    go_wp2_with fail
    refine Calls.mono (HPz1.out _ (MaxLen.later HT.out HB7.out)) ?_
    rintro e w8 ⟨rfl, hb8⟩
    have HB8 : Hid _ := HB7.out.trans (hb8.mono HB7.out.size)
    clear hb8
    go_wp2
    go_ret
    exact ⟨rfl, HB8.out⟩
  · have hpl2 : plain b = true := hpl
    rw [hpl2] at HPx
    have HPx2 : Hid (∀ w, MaxLen w → Calls Tryd.prog 15 #[.string (strN X2)] w fun e w' => e = .returned (.tuple #[.string (strN Z2), .int .i64 0]) ∧ Below w.heap.size w w') := HPx.out
    clear HPx hpl hpl2
    go_wp2_with fail
    refine Calls.mono (HPx2.out _ (MaxLen.later HT.out HB2b.out)) ?_
    rintro e w3 ⟨rfl, hb3⟩
    have HB3 : Hid _ := HB2b.out.trans (hb3.mono HB2b.out.size)
    clear hb3
    have hos := one_string b w3
    have HB4 : Hid (Below W.heap.size W (w3.alloc (Obj.cells #[.int .u8 (b : Int)] 5))) := HB3.out.alloc HB3.out.size _
    have hos2 := one_string b (w3.alloc (Obj.cells #[.int .u8 (b : Int)] 5))
    rw [show (w3.alloc (Obj.cells #[.int .u8 (b : Int)] 5)).heap.size = w3.heap.size + 1 by simp] at hos2
    have HB5 : Hid (Below W.heap.size W ((w3.alloc (Obj.cells #[.int .u8 (b : Int)] 5)).alloc (Obj.cells #[.int .u8 (b : Int)] 5))) := HB4.out.alloc HB4.out.size _
    go_wp2_with fail
    refine Calls.mono (HPz2.out _ (MaxLen.later HT.out HB5.out)) ?_
    rintro e w6 ⟨rfl, hb6⟩
    have HB6 : Hid _ := HB5.out.trans (hb6.mono HB5.out.size)
    clear hb6
    have hos3 := one_string b w6
    have HB7 : Hid (Below W.heap.size W (w6.alloc (Obj.cells #[.int .u8 (b : Int)] 5))) := HB6.out.alloc HB6.out.size _
    go_wp2_with fail
    refine Calls.mono (HPz1.out _ (MaxLen.later HT.out HB7.out)) ?_
    rintro e w8 ⟨rfl, hb8⟩
    have HB8 : Hid _ := HB7.out.trans (hb8.mono HB7.out.size)
    clear hb8
    go_wp2
    go_ret
    exact ⟨rfl, HB8.out⟩
  · have hpl2 : plain b = false := hpl
    rw [hpl2] at HPx
    have HPx2 : Hid (∀ w, MaxLen w → Calls Tryd.prog 15 #[.string (strN X2)] w fun e w' => e = .returned (.tuple #[.string (strN Y2), .int .i64 0]) ∧ Below w.heap.size w w') := HPx.out
    clear HPx hpl hpl2
    go_wp2_with fail
    refine Calls.mono (HPx2.out _ (MaxLen.later HT.out HB2b.out)) ?_
    rintro e w3 ⟨rfl, hb3⟩
    have HB3 : Hid _ := HB2b.out.trans (hb3.mono HB2b.out.size)
    clear hb3
    have hos := one_string b w3
    have HB4 : Hid (Below W.heap.size W (w3.alloc (Obj.cells #[.int .u8 (b : Int)] 5))) := HB3.out.alloc HB3.out.size _
    go_wp2_with fail
    refine Calls.mono (HPz2.out _ (MaxLen.later HT.out HB4.out)) ?_
    rintro e w6 ⟨rfl, hb6⟩
    have HB6 : Hid _ := HB4.out.trans (hb6.mono HB4.out.size)
    clear hb6
    have hos3 := one_string b w6
    have HB7 : Hid (Below W.heap.size W (w6.alloc (Obj.cells #[.int .u8 (b : Int)] 5))) := HB6.out.alloc HB6.out.size _
    go_wp2_with fail
    refine Calls.mono (HPz1.out _ (MaxLen.later HT.out HB7.out)) ?_
    rintro e w8 ⟨rfl, hb8⟩
    have HB8 : Hid _ := HB7.out.trans (hb8.mono HB7.out.size)
    clear hb8
    go_wp2
    go_ret
    exact ⟨rfl, HB8.out⟩
  · have hpl2 : plain b = true := hpl
    rw [hpl2] at HPx
    have HPx2 : Hid (∀ w, MaxLen w → Calls Tryd.prog 15 #[.string (strN X2)] w fun e w' => e = .returned (.tuple #[.string (strN Z2), .int .i64 0]) ∧ Below w.heap.size w w') := HPx.out
    clear HPx hpl hpl2
    go_wp2_with fail
    refine Calls.mono (HPx2.out _ (MaxLen.later HT.out HB2b.out)) ?_
    rintro e w3 ⟨rfl, hb3⟩
    have HB3 : Hid _ := HB2b.out.trans (hb3.mono HB2b.out.size)
    clear hb3
    have hos := one_string b w3
    have HB4 : Hid (Below W.heap.size W (w3.alloc (Obj.cells #[.int .u8 (b : Int)] 5))) := HB3.out.alloc HB3.out.size _
    have hos2 := one_string b (w3.alloc (Obj.cells #[.int .u8 (b : Int)] 5))
    rw [show (w3.alloc (Obj.cells #[.int .u8 (b : Int)] 5)).heap.size = w3.heap.size + 1 by simp] at hos2
    have HB5 : Hid (Below W.heap.size W ((w3.alloc (Obj.cells #[.int .u8 (b : Int)] 5)).alloc (Obj.cells #[.int .u8 (b : Int)] 5))) := HB4.out.alloc HB4.out.size _
    go_wp2_with fail
    refine Calls.mono (HPz2.out _ (MaxLen.later HT.out HB5.out)) ?_
    rintro e w6 ⟨rfl, hb6⟩
    have HB6 : Hid _ := HB5.out.trans (hb6.mono HB5.out.size)
    clear hb6
    have hos3 := one_string b w6
    have HB7 : Hid (Below W.heap.size W (w6.alloc (Obj.cells #[.int .u8 (b : Int)] 5))) := HB6.out.alloc HB6.out.size _
    go_wp2_with fail
    refine Calls.mono (HPz1.out _ (MaxLen.later HT.out HB7.out)) ?_
    rintro e w8 ⟨rfl, hb8⟩
    have HB8 : Hid _ := HB7.out.trans (hb8.mono HB7.out.size)
    clear hb8
    go_wp2
    go_ret
    exact ⟨rfl, HB8.out⟩
end Go.Proofs.YtmdpakkldapciaaDoor

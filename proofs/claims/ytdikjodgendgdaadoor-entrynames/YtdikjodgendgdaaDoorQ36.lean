/-
  L6Known, L6Names.
-/
import Derived.Test.YtdikjodgendgdaaDoorQ28
import Derived.Test.YtdikjodgendgdaaDoorQ34
import Derived.Test.YtdikjodgendgdaaDoorQ35
import Derived.Test.YtdikjodgendgdaaDoorQ08
namespace Go.Proofs.YtdikjodgendgdaaDoor
open Go.RowKit NumMath
open EntMath (E textB iN nI bytes0)
set_option maxRecDepth 100000
set_option linter.unusedVariables false
set_option linter.unusedSimpArgs false
attribute [-simp] Tryd.isAgg39 Tryd.zeroValue39

def K0 : E := ⟨[72, 84, 84, 80, 58, 47, 47, 97, 46, 98], [], [32, 116, 32], [104, 116, 116, 112, 58, 47, 47, 97, 46, 98, 47, 112], [], 0⟩
def K1 : E := ⟨[104, 116, 116, 112, 58, 47, 47, 97, 46, 98, 47], [104, 116, 116, 112, 58, 47, 47, 97, 46, 98, 47, 112], [116], [104, 116, 116, 112, 58, 47, 47, 97, 46, 98, 47, 112], [], 0⟩
def K2 : E := ⟨[104, 116, 116, 112, 58, 47, 47, 97, 46, 98], [], [], [], [], 0⟩
theorem clean_K0 : EntMath.clean K0 = (K1, 0) := by kernel_rfl
theorem clean_K2 : EntMath.clean K2 = (EntMath.zero, 26) := by kernel_rfl
theorem right_K1 : EntMath.right K1 = true := EntMath.clean_right clean_K0
theorem read_K1 : EntMath.read (EntMath.bytes K1) = (K1, 0) := by
  unfold EntMath.bytes; rw [if_pos right_K1]; exact EntMath.read_bytes right_K1
theorem fit_K0 : EFit K0 := ⟨by decide, by decide, by decide, by decide, by decide, by decide, by decide, by decide, by decide, by decide, by decide, by decide⟩
theorem fit_K1 : EFit K1 := EFit.of (EntMath.right_fit right_K1)
theorem fit_K2 : EFit K2 := ⟨by decide, by decide, by decide, by decide, by decide, by decide, by decide, by decide, by decide, by decide, by decide, by decide⟩
theorem id_K1 : (idN K1)[0]?.getD 0 ≠ 0 := by
  have h : (ShaMath.digest (nI (bytes0 K1)))[0]?.getD 0 ≠ 0 := by decide +kernel
  unfold idN; rw [if_pos right_K1]; exact h
theorem eq_head (l m : List Nat) (hl : l.length = 32) (hm : m.length = 32) (h : l[0]?.getD 0 ≠ m[0]?.getD 0) (w : World) : (Op.equalIn 10000 39 (.agg (u8v l).toArray) (.agg (u8v m).toArray)).run Tryd.prog w = .ok false w := by
  obtain ⟨i, hi⟩ : ∃ i, Tryd.prog.info? 5 = some i := by
    cases hq : Tryd.prog.info? 5 with
    | none => have := size5; simp [hq] at this
    | some x => exact ⟨x, rfl⟩
  have hh := run_equalIn_array (P := Tryd.prog) w 9999 (t := 39) (u8v l).toArray (u8v m).toArray Tryd.underlying39 hi
  rw [hh, cells5]
  show (Op.eqItems 9999 5 1 (u8v l).toArray (u8v m).toArray (0 :: (List.range 31).map (· + 1))).run Tryd.prog w = _
  have hp1 := run_part8 (w := w) (u8v l) 0 (.int .u8 ((l[0]?.getD 0 : Nat) : Int)) (by simp [u8v, hl])
  have hp2 := run_part8 (w := w) (u8v m) 0 (.int .u8 ((m[0]?.getD 0 : Nat) : Int)) (by simp [u8v, hm])
  have he := run_equalIn_int (P := Tryd.prog) w 9998 5 .u8 .u8 ((l[0]?.getD 0 : Nat) : Int) ((m[0]?.getD 0 : Nat) : Int) Tryd.underlying5
  have hne : (((l[0]?.getD 0 : Nat) : Int) == ((m[0]?.getD 0 : Nat) : Int)) = false := by simp; omega
  rw [hne] at he
  simp only [Op.eqItems, Sem.run_bind, hp1, hp2, Result.andThen_ok, he]
  rfl

set_option maxHeartbeats 16000000 in
theorem known_any (w : World) (ht : Env w) :
    Calls Tryd.prog 4 #[] w fun r w' => r = .returned (.bool true) ∧ Below w.heap.size w w' := by
  have HT0 : Hid _ := ht
  have HC0 : Hid (∀ w, MaxLen w → Calls Tryd.prog 6 #[.agg #[.string ⟨#[72, 84, 84, 80, 58, 47, 47, 97, 46, 98]⟩, .string ⟨#[]⟩, .string ⟨#[32, 116, 32]⟩, .string ⟨#[104, 116, 116, 112, 58, 47, 47, 97, 46, 98, 47, 112]⟩, .string ⟨#[]⟩, .int .i64 0]] w fun r w' => r = .returned (.tuple #[.agg #[.string ⟨#[104, 116, 116, 112, 58, 47, 47, 97, 46, 98, 47]⟩, .string ⟨#[104, 116, 116, 112, 58, 47, 47, 97, 46, 98, 47, 112]⟩, .string ⟨#[116]⟩, .string ⟨#[104, 116, 116, 112, 58, 47, 47, 97, 46, 98, 47, 112]⟩, .string ⟨#[]⟩, .int .i64 0], .int .i64 0]) ∧ Below w.heap.size w w') := by
    intro w ht
    have := entClean_any K0 w ht fit_K0
    rw [clean_K0] at this
    exact this
  have HC2 : Hid (∀ w, MaxLen w → Calls Tryd.prog 6 #[.agg #[.string ⟨#[104, 116, 116, 112, 58, 47, 47, 97, 46, 98]⟩, .string ⟨#[]⟩, .string ⟨#[]⟩, .string ⟨#[]⟩, .string ⟨#[]⟩, .int .i64 0]] w fun r w' => r = .returned (.tuple #[.agg #[.string ⟨#[]⟩, .string ⟨#[]⟩, .string ⟨#[]⟩, .string ⟨#[]⟩, .string ⟨#[]⟩, .int .i64 0], .int .i64 26]) ∧ Below w.heap.size w w') := by
    intro w ht
    have := entClean_any K2 w ht fit_K2
    rw [clean_K2] at this
    exact this
  have HB1 : Hid (∀ w, MaxLen w → Calls Tryd.prog 11 #[.agg #[.string ⟨#[104, 116, 116, 112, 58, 47, 47, 97, 46, 98, 47]⟩, .string ⟨#[104, 116, 116, 112, 58, 47, 47, 97, 46, 98, 47, 112]⟩, .string ⟨#[116]⟩, .string ⟨#[104, 116, 116, 112, 58, 47, 47, 97, 46, 98, 47, 112]⟩, .string ⟨#[]⟩, .int .i64 0]] w fun r w' => ∃ v, r = .returned v ∧ Bytes w' v (EntMath.bytes K1) ∧ Below w.heap.size w w') := fun w ht => entBytes_any K1 w ht fit_K1
  have HR1 : Hid (∀ w, MaxLen w → Calls Tryd.prog 12 #[.agg #[.string ⟨#[104, 116, 116, 112, 58, 47, 47, 97, 46, 98, 47]⟩, .string ⟨#[104, 116, 116, 112, 58, 47, 47, 97, 46, 98, 47, 112]⟩, .string ⟨#[116]⟩, .string ⟨#[104, 116, 116, 112, 58, 47, 47, 97, 46, 98, 47, 112]⟩, .string ⟨#[]⟩, .int .i64 0]] w fun r w' => r = .returned (.bool true) ∧ Below w.heap.size w w') := by
    intro w ht
    have := entRight_any K1 w ht fit_K1
    rw [right_K1] at this
    exact this
  have HI1 : Hid (∀ w, Env w → Calls Tryd.prog 13 #[.agg #[.string ⟨#[104, 116, 116, 112, 58, 47, 47, 97, 46, 98, 47]⟩, .string ⟨#[104, 116, 116, 112, 58, 47, 47, 97, 46, 98, 47, 112]⟩, .string ⟨#[116]⟩, .string ⟨#[104, 116, 116, 112, 58, 47, 47, 97, 46, 98, 47, 112]⟩, .string ⟨#[]⟩, .int .i64 0]] w fun r w' => r = .returned (.agg (u8v (idN K1)).toArray) ∧ Below w.heap.size w w') := fun w ht => entId_any K1 w ht fit_K1
  have HRd : Hid (∀ (a : Option Addr) (c : Nat) (w : World), MaxLen w → Rest w a (EntMath.bytes K1) c → Calls Tryd.prog 10 #[.slice a (EntMath.bytes K1).length c] w fun r w' => r = .returned (.tuple #[.agg #[.string ⟨#[104, 116, 116, 112, 58, 47, 47, 97, 46, 98, 47]⟩, .string ⟨#[104, 116, 116, 112, 58, 47, 47, 97, 46, 98, 47, 112]⟩, .string ⟨#[116]⟩, .string ⟨#[104, 116, 116, 112, 58, 47, 47, 97, 46, 98, 47, 112]⟩, .string ⟨#[]⟩, .int .i64 0], .int .i64 0]) ∧ Below w.heap.size w w') := by
    intro a c w ht hR
    have := entRead_any a (EntMath.bytes K1) c w ht hR (EntMath.bytes_byte K1) (by
      intro s hs
      have h1 := (EntMath.texts_one 5 (EntMath.bytes K1) (EntMath.bytes_byte K1) (by decide +kernel)).2.2.2.2 s hs
      have := EntMath.bytes_len K1
      omega)
    rw [read_K1] at this
    exact this
  obtain ⟨z26, i26⟩ := zero_of_info zero26
  have hne := eq_head (idN K1) (List.replicate 32 0) (idN_len K1) rfl id_K1
  obtain ⟨Z, hZ⟩ : ∃ Z, Z = u8v (List.replicate 32 0) := ⟨_, rfl⟩
  rw [← hZ] at z26 hne
  clear ht hZ i26
  go_enter Tryd.func4, Tryd.ntmps4
  go_wp2_with fail
  refine Calls.mono (HC0.out _ HT0.out.max) ?_
  rintro r w1 ⟨rfl, hb⟩
  have HB : Hid _ := hb
  clear hb
  go_wp2_with fail
  have HA1 : Hid (EntAt (w1.alloc (.cells #[.string ⟨#[104, 116, 116, 112, 58, 47, 47, 97, 46, 98, 47]⟩, .string ⟨#[104, 116, 116, 112, 58, 47, 47, 97, 46, 98, 47, 112]⟩, .string ⟨#[116]⟩, .string ⟨#[104, 116, 116, 112, 58, 47, 47, 97, 46, 98, 47, 112]⟩, .string ⟨#[]⟩, .int .i64 0] 26)) w1.heap.size K1) := EntAt.new w1 K1
  have HB1w : Hid (Below w.heap.size w (w1.alloc (.cells #[.string ⟨#[104, 116, 116, 112, 58, 47, 47, 97, 46, 98, 47]⟩, .string ⟨#[104, 116, 116, 112, 58, 47, 47, 97, 46, 98, 47, 112]⟩, .string ⟨#[116]⟩, .string ⟨#[104, 116, 116, 112, 58, 47, 47, 97, 46, 98, 47, 112]⟩, .string ⟨#[]⟩, .int .i64 0] 26))) := HB.out.alloc HB.out.size _
  generalize (w1.alloc (.cells #[.string ⟨#[104, 116, 116, 112, 58, 47, 47, 97, 46, 98, 47]⟩, .string ⟨#[104, 116, 116, 112, 58, 47, 47, 97, 46, 98, 47, 112]⟩, .string ⟨#[116]⟩, .string ⟨#[104, 116, 116, 112, 58, 47, 47, 97, 46, 98, 47, 112]⟩, .string ⟨#[]⟩, .int .i64 0] 26)) = W1 at *
  generalize w1.heap.size = g1 at *
  have HT1 : Hid (Env W1) := HT0.out.later HB1w.out
  refine Calls.mono (HB1.out _ HT1.out.max) ?_
  rintro r w2 ⟨v, rfl, hby, hb⟩
  obtain ⟨a, c, rfl, hrow, hbb, hc, hm, hn⟩ := hby
  have HA2 : Hid _ := HA1.out.later hb HA1.out.lt
  have HB2 : Hid _ := HB1w.out.trans (hb.mono HB1w.out.size)
  have HT2 : Hid (Env w2) := HT1.out.later hb
  have HRe : Hid (Rest w2 a (EntMath.bytes K1) c) := ⟨hrow, hc, hm, hn⟩
  have HRd2 : Hid _ := HRd.out a c w2 HT2.out.max HRe.out
  clear hb hrow hbb hc hm hn HA1 HB1w HT1 HRd HRe HB
  generalize (EntMath.bytes K1).length = L at *
  go_wp2_with fail
  refine Calls.mono HRd2.out ?_
  rintro r w3 ⟨rfl, hb⟩
  have HA3 : Hid _ := HA2.out.later hb HA2.out.lt
  have HB3 : Hid _ := HB2.out.trans (hb.mono HB2.out.size)
  have HT3 : Hid (Env w3) := HT2.out.later hb
  clear hb HA2 HB2 HT2 HRd2
  go_wp2_with fail
  have HX4 : Hid (EntAt (w3.alloc (.cells #[.string ⟨#[104, 116, 116, 112, 58, 47, 47, 97, 46, 98, 47]⟩, .string ⟨#[104, 116, 116, 112, 58, 47, 47, 97, 46, 98, 47, 112]⟩, .string ⟨#[116]⟩, .string ⟨#[104, 116, 116, 112, 58, 47, 47, 97, 46, 98, 47, 112]⟩, .string ⟨#[]⟩, .int .i64 0] 26)) w3.heap.size K1) := EntAt.new w3 K1
  have HA4 : Hid (EntAt (w3.alloc (.cells #[.string ⟨#[104, 116, 116, 112, 58, 47, 47, 97, 46, 98, 47]⟩, .string ⟨#[104, 116, 116, 112, 58, 47, 47, 97, 46, 98, 47, 112]⟩, .string ⟨#[116]⟩, .string ⟨#[104, 116, 116, 112, 58, 47, 47, 97, 46, 98, 47, 112]⟩, .string ⟨#[]⟩, .int .i64 0] 26)) g1 K1) := HA3.out.alloc _
  have HB4 : Hid (Below w.heap.size w (w3.alloc (.cells #[.string ⟨#[104, 116, 116, 112, 58, 47, 47, 97, 46, 98, 47]⟩, .string ⟨#[104, 116, 116, 112, 58, 47, 47, 97, 46, 98, 47, 112]⟩, .string ⟨#[116]⟩, .string ⟨#[104, 116, 116, 112, 58, 47, 47, 97, 46, 98, 47, 112]⟩, .string ⟨#[]⟩, .int .i64 0] 26))) := HB3.out.alloc HB3.out.size _
  generalize (w3.alloc (.cells #[.string ⟨#[104, 116, 116, 112, 58, 47, 47, 97, 46, 98, 47]⟩, .string ⟨#[104, 116, 116, 112, 58, 47, 47, 97, 46, 98, 47, 112]⟩, .string ⟨#[116]⟩, .string ⟨#[104, 116, 116, 112, 58, 47, 47, 97, 46, 98, 47, 112]⟩, .string ⟨#[]⟩, .int .i64 0] 26)) = W4 at *
  generalize w3.heap.size = g3 at *
  have HT4 : Hid (Env W4) := HT0.out.later HB4.out
  clear HA3 HB3 HT3
  refine Calls.mono (HC2.out _ HT4.out.max) ?_
  rintro r w5 ⟨rfl, hb⟩
  have HA5 : Hid _ := HA4.out.later hb HA4.out.lt
  have HX5 : Hid _ := HX4.out.later hb HX4.out.lt
  have HB5 : Hid _ := HB4.out.trans (hb.mono HB4.out.size)
  clear hb HA4 HB4 HT4 HX4
  have HA6 : Hid (EntAt (w5.alloc (.cells #[.string ⟨#[]⟩, .string ⟨#[]⟩, .string ⟨#[]⟩, .string ⟨#[]⟩, .string ⟨#[]⟩, .int .i64 0] 26)) g1 K1) := HA5.out.alloc _
  have HX6 : Hid (EntAt (w5.alloc (.cells #[.string ⟨#[]⟩, .string ⟨#[]⟩, .string ⟨#[]⟩, .string ⟨#[]⟩, .string ⟨#[]⟩, .int .i64 0] 26)) g3 K1) := HX5.out.alloc _
  have HB6 : Hid (Below w.heap.size w (w5.alloc (.cells #[.string ⟨#[]⟩, .string ⟨#[]⟩, .string ⟨#[]⟩, .string ⟨#[]⟩, .string ⟨#[]⟩, .int .i64 0] 26))) := HB5.out.alloc HB5.out.size _
  have HT6 : Hid (Env (w5.alloc (.cells #[.string ⟨#[]⟩, .string ⟨#[]⟩, .string ⟨#[]⟩, .string ⟨#[]⟩, .string ⟨#[]⟩, .int .i64 0] 26))) := HT0.out.later HB6.out
  have hl5 := HA5.out.lt
  have hx5 := HX5.out.lt
  have c0 : w5.cell? ⟨g1, 0, none⟩ = some (.string ⟨#[104, 116, 116, 112, 58, 47, 47, 97, 46, 98, 47]⟩) := (EntAt.cells HA5.out).1
  have c1 : w5.cell? ⟨g1, 1, none⟩ = some (.string ⟨#[104, 116, 116, 112, 58, 47, 47, 97, 46, 98, 47, 112]⟩) := (EntAt.cells HA5.out).2.1
  have c2 : w5.cell? ⟨g1, 2, none⟩ = some (.string ⟨#[116]⟩) := (EntAt.cells HA5.out).2.2.1
  have c3 : w5.cell? ⟨g1, 3, none⟩ = some (.string ⟨#[104, 116, 116, 112, 58, 47, 47, 97, 46, 98, 47, 112]⟩) := (EntAt.cells HA5.out).2.2.2.1
  have c4 : w5.cell? ⟨g1, 4, none⟩ = some (.string ⟨#[]⟩) := (EntAt.cells HA5.out).2.2.2.2.1
  have c5 : w5.cell? ⟨g1, 5, none⟩ = some (.int .i64 0) := (EntAt.cells HA5.out).2.2.2.2.2
  go_wp2_with fail
  refine Calls.mono (HR1.out _ HT6.out.max) ?_
  rintro r w7 ⟨rfl, hb⟩
  have HA7 : Hid _ := HA6.out.later hb HA6.out.lt
  have HX7 : Hid _ := HX6.out.later hb HX6.out.lt
  have HB7 : Hid _ := HB6.out.trans (hb.mono HB6.out.size)
  have HT7 : Hid (Env w7) := HT6.out.later hb
  clear hb HA6 HX6 HB6 HT6 c0 c1 c2 c3 c4 c5
  have c0 : w7.cell? ⟨g1, 0, none⟩ = some (.string ⟨#[104, 116, 116, 112, 58, 47, 47, 97, 46, 98, 47]⟩) := (EntAt.cells HA7.out).1
  have c1 : w7.cell? ⟨g1, 1, none⟩ = some (.string ⟨#[104, 116, 116, 112, 58, 47, 47, 97, 46, 98, 47, 112]⟩) := (EntAt.cells HA7.out).2.1
  have c2 : w7.cell? ⟨g1, 2, none⟩ = some (.string ⟨#[116]⟩) := (EntAt.cells HA7.out).2.2.1
  have c3 : w7.cell? ⟨g1, 3, none⟩ = some (.string ⟨#[104, 116, 116, 112, 58, 47, 47, 97, 46, 98, 47, 112]⟩) := (EntAt.cells HA7.out).2.2.2.1
  have c4 : w7.cell? ⟨g1, 4, none⟩ = some (.string ⟨#[]⟩) := (EntAt.cells HA7.out).2.2.2.2.1
  have c5 : w7.cell? ⟨g1, 5, none⟩ = some (.int .i64 0) := (EntAt.cells HA7.out).2.2.2.2.2
  have d0 : w7.cell? ⟨g3, 0, none⟩ = some (.string ⟨#[104, 116, 116, 112, 58, 47, 47, 97, 46, 98, 47]⟩) := (EntAt.cells HX7.out).1
  have d1 : w7.cell? ⟨g3, 1, none⟩ = some (.string ⟨#[104, 116, 116, 112, 58, 47, 47, 97, 46, 98, 47, 112]⟩) := (EntAt.cells HX7.out).2.1
  have d2 : w7.cell? ⟨g3, 2, none⟩ = some (.string ⟨#[116]⟩) := (EntAt.cells HX7.out).2.2.1
  have d3 : w7.cell? ⟨g3, 3, none⟩ = some (.string ⟨#[104, 116, 116, 112, 58, 47, 47, 97, 46, 98, 47, 112]⟩) := (EntAt.cells HX7.out).2.2.2.1
  have d4 : w7.cell? ⟨g3, 4, none⟩ = some (.string ⟨#[]⟩) := (EntAt.cells HX7.out).2.2.2.2.1
  have d5 : w7.cell? ⟨g3, 5, none⟩ = some (.int .i64 0) := (EntAt.cells HX7.out).2.2.2.2.2
  go_wp2_with fail
  refine Calls.mono (HI1.out _ HT7.out) ?_
  rintro r w8 ⟨rfl, hb⟩
  have HB8 : Hid _ := HB7.out.trans (hb.mono HB7.out.size)
  clear hb
  generalize (u8v (idN K1)).toArray = A at *
  go_wp2
  go_ret
  exact ⟨rfl, HB8.out⟩
end Go.Proofs.YtdikjodgendgdaaDoor
namespace Go.Proofs.YtdikjodgendgdaaDoor
open Go.RowKit NumMath
open EntMath (E guidOf)
set_option maxRecDepth 100000
set_option linter.unusedVariables false
set_option linter.unusedSimpArgs false

theorem addrs_right : ∀ a ∈ addrs, AddrMath.parse a = (a, 0) := by decide +kernel
theorem addrs_ne : ∀ a ∈ addrs, a ≠ [] := by decide
theorem cutB_nil (n : Int) : TxtMath.cutB [] n = [] := by
  have : TxtMath.clean (TxtMath.runes []) = [] := rfl
  unfold TxtMath.cutB TxtMath.cutR
  rw [this]
  simp [TxtMath.trimR, TxtMath.encs]
/-- What becomes of an entry whose addresses are in their form. -/
theorem clean_named {F L guid title : List Nat} {n : Int} (hF : AddrMath.parse F = (F, 0)) (hL : EntMath.linkP L = (L, 0)) (h0 : 0 ≤ n) (h1 : n ≤ 65535) :
    EntMath.clean ⟨F, guid, title, L, [], n⟩ = if guidOf (TxtMath.cleanB guid) L (TxtMath.cutB title 120) = [] then (EntMath.zero, 26) else if 200 < (TxtMath.runes (guidOf (TxtMath.cleanB guid) L (TxtMath.cutB title 120))).length then (EntMath.zero, 23) else (⟨F, guidOf (TxtMath.cleanB guid) L (TxtMath.cutB title 120), TxtMath.cutB title 120, L, [], n⟩, 0) := by
  unfold EntMath.clean
  simp only []
  rw [hF, hL, cutB_nil]
  unfold EntMath.cleanG
  rw [if_neg (by simp), if_neg (by simp)]
  split
  · rfl
  · split
    · rfl
    · rw [if_neg (by omega)]

set_option maxHeartbeats 16000000 in
theorem entryNames_F (s t : List Nat) (k j at_ : Nat) (W : World) (ht : Env W) (hsb : ∀ c ∈ s, c < 256) (htb : ∀ c ∈ t, c < 256) (hsl : s.length ≤ 900) (htl : t.length ≤ 600) (hk : k < 256) (hj : j < 256) (ha : at_ < 65536) :
    Calls Tryd.prog 3 #[.string (strN s), .string (strN t), .int .u8 (k : Int), .int .u8 (j : Int), .bool false, .int .u16 (at_ : Int)] W fun r W' => r = .returned (.bool true) ∧ Below W.heap.size W W' := by
  have HT0 : Hid _ := ht
  have HK : Hid _ := known_any W ht
  have hsz := strN_size s
  have htz := strN_size t
  have HAk : Hid (∀ w, _) := fun w => seatAddr_any k w hk
  have HAj : Hid (∀ w, _) := fun w => seatAddr_any j w hj
  have hFp := addrs_right _ (seatA5_mem k)
  have hJp := addrs_right _ (seatA5_mem j)
  have hJn := addrs_ne _ (seatA5_mem j)
  obtain ⟨hFb, hFl, _⟩ := addrs_lt _ (seatA5_mem k)
  obtain ⟨hJb, hJl, _⟩ := addrs_lt _ (seatA5_mem j)
  have hwa : IntKind.i64.wrap (at_ : Int) = (at_ : Int) := by rw [IntKind.wrap_i64]; omega
  generalize seatA5 k = F at *
  generalize seatA5 j = J at *
  have hai : (at_ : Int) ≤ 65535 := by omega
  have hLp : EntMath.linkP [] = ([], 0) := by rfl
  have hcl := clean_named (guid := s) (title := t) (n := (at_ : Int)) hFp hLp (by omega) hai
  have hfit : EFit ⟨F, s, t, [], [], (at_ : Int)⟩ := ⟨hFb, hsb, htb, by simp, by simp, by show F.length ≤ 10000; omega, by show s.length ≤ 10000; omega, by show t.length ≤ 10000; omega, by simp, by simp, by show _ ≤ (at_ : Int); omega, by show (at_ : Int) ≤ _; omega⟩
  have HCl : Hid (∀ w, MaxLen w → _) := fun w ht => entClean_any ⟨F, s, t, [], [], (at_ : Int)⟩ w ht hfit
  have HTc : Hid (∀ w, _) := fun w => clean_any s w hsb (by omega)
  have HCu : Hid (∀ w, _) := fun w => cut_any t 120 w htb (by omega) (by omega)
  have hgb := cleanB_lt s
  have hgl := cleanB_len s
  have hub := EntMath.cutB_lt t 120
  have hul := EntMath.cutB_len t 120
  have hxf := EntMath.clean_any_fit ⟨F, s, t, [], [], (at_ : Int)⟩
  generalize TxtMath.cleanB s = g at *
  generalize TxtMath.cutB t 120 = u at *
  have eg := strN_nil_eq g hgb
  have eu := strN_nil_eq u hub
  have eJ := strN_nil_eq J hJb
  clear ht
  suffices H : ∀ Nm : List Nat, (∀ c ∈ Nm, c < 256) → Nm.length ≤ 10000 → guidOf g [] u = Nm → ((g ≠ [] ∧ Nm = g) ∨ (g = [] ∧ Nm = u)) →
      Calls Tryd.prog 3 #[.string (strN s), .string (strN t), .int .u8 (k : Int), .int .u8 (j : Int), .bool false, .int .u16 (at_ : Int)] W fun r W' => r = .returned (.bool true) ∧ Below W.heap.size W W' by
    by_cases hg : g = []
    · exact H u hub (by omega) (by unfold EntMath.guidOf; rw [if_pos hg, if_pos rfl]) (.inr ⟨hg, rfl⟩)
    · exact H g hgb (by omega) (by unfold EntMath.guidOf; rw [if_neg hg]) (.inl ⟨hg, rfl⟩)
  intro Nm hNb hNl hNm hpath
  rw [hNm] at hcl
  have HRu : Hid (∀ w, _) := fun w => runes_any Nm w hNb (by omega)
  have eN := strN_nil_eq Nm hNb
  have HNm : Hid _ := hNm
  clear hNm
  by_cases hE : Nm = []
  · have hq := hcl.trans (if_pos hE)
    rw [hq] at HCl
    rw [show decide (Nm = []) = true by simp [hE]] at eN
    have HE : Hid _ := hE
    clear hq hcl hE hxf eu eJ
    rcases hpath with ⟨hg, hn⟩ | ⟨hg, hn⟩
    · rw [show decide (g = []) = false by simp [hg]] at eg
      exact absurd (hn.symm.trans HE.out) hg
    · rw [show decide (g = []) = true by simp [hg]] at eg
      clear hg
      have hn' := hn.symm
      clear hn
      subst hn'
      have HCl2 : Hid (∀ w, MaxLen w → Calls Tryd.prog 6 #[.agg #[.string (strN F), .string (strN s), .string (strN t), .string ⟨#[]⟩, .string ⟨#[]⟩, .int .i64 (at_ : Int)]] w fun r w' => r = .returned (.tuple #[.agg #[.string ⟨#[]⟩, .string ⟨#[]⟩, .string ⟨#[]⟩, .string ⟨#[]⟩, .string ⟨#[]⟩, .int .i64 0], .int .i64 26]) ∧ Below w.heap.size w w') := HCl.out
      clear HCl
      go_enter Tryd.func3, Tryd.ntmps3
      go_wp2_with fail
      refine Calls.mono HK.out ?_
      rintro r w1 ⟨rfl, hb⟩
      have HB1 : Hid _ := hb
      clear hb
      go_wp2_with fail
      refine Calls.mono (HAk.out _) ?_
      rintro r w2 ⟨rfl, hb⟩
      have HB2 : Hid _ := HB1.out.trans (hb.mono HB1.out.size)
      clear hb HB1
      have HE3 : Hid (EntAt (w2.alloc (.cells #[.string (strN F), .string (strN s), .string (strN t), .string ⟨#[]⟩, .string ⟨#[]⟩, .int .i64 (at_ : Int)] 26)) w2.heap.size ⟨F, s, t, [], [], (at_ : Int)⟩) := EntAt.new w2 ⟨F, s, t, [], [], (at_ : Int)⟩
      have HB3 : Hid (Below W.heap.size W (w2.alloc (.cells #[.string (strN F), .string (strN s), .string (strN t), .string ⟨#[]⟩, .string ⟨#[]⟩, .int .i64 (at_ : Int)] 26))) := HB2.out.alloc HB2.out.size _
      have HG3 : Hid (W.heap.size ≤ w2.heap.size) := HB2.out.size
      go_wp2_with fail
      generalize (w2.alloc (.cells #[.string (strN F), .string (strN s), .string (strN t), .string ⟨#[]⟩, .string ⟨#[]⟩, .int .i64 (at_ : Int)] 26)) = w3 at *
      generalize w2.heap.size = g1 at *
      have HE5 : Hid _ := HE3.out
      have HB5 : Hid _ := HB3.out
      clear HE3 HB3
      have HT5 : Hid (Env w3) := HT0.out.later HB5.out
      refine Calls.mono (HCl2.out _ HT5.out.max) ?_
      rintro r w6 ⟨rfl, hb⟩
      have HE6 : Hid _ := HE5.out.later hb HE5.out.lt
      have HB6 : Hid _ := HB5.out.trans (hb.mono HB5.out.size)
      clear hb HB5 HE5 HT5 HCl2
      have HX7 : Hid (EntAt (w6.alloc (.cells #[.string ⟨#[]⟩, .string ⟨#[]⟩, .string ⟨#[]⟩, .string ⟨#[]⟩, .string ⟨#[]⟩, .int .i64 0] 26)) w6.heap.size EntMath.zero) := EntAt.new w6 EntMath.zero
      have HE7 : Hid (EntAt (w6.alloc (.cells #[.string ⟨#[]⟩, .string ⟨#[]⟩, .string ⟨#[]⟩, .string ⟨#[]⟩, .string ⟨#[]⟩, .int .i64 0] 26)) g1 _) := HE6.out.alloc _
      have HB7 : Hid (Below W.heap.size W (w6.alloc (.cells #[.string ⟨#[]⟩, .string ⟨#[]⟩, .string ⟨#[]⟩, .string ⟨#[]⟩, .string ⟨#[]⟩, .int .i64 0] 26))) := HB6.out.alloc HB6.out.size _
      go_wp2_with fail
      generalize (w6.alloc (.cells #[.string ⟨#[]⟩, .string ⟨#[]⟩, .string ⟨#[]⟩, .string ⟨#[]⟩, .string ⟨#[]⟩, .int .i64 0] 26)) = w7 at *
      generalize w6.heap.size = g2 at *
      clear HE6 HB6
      refine Calls.mono (HTc.out _) ?_
      rintro r w8 ⟨rfl, hb⟩
      have HE8 : Hid _ := HE7.out.later hb HE7.out.lt
      have HX8 : Hid _ := HX7.out.later hb HX7.out.lt
      have HB8 : Hid _ := HB7.out.trans (hb.mono HB7.out.size)
      clear hb HE7 HX7 HB7
      go_wp2_with fail
      refine Calls.mono (HCu.out _) ?_
      rintro r w9 ⟨rfl, hb⟩
      have HE9 : Hid _ := HE8.out.later hb HE8.out.lt
      have HX9 : Hid _ := HX8.out.later hb HX8.out.lt
      have HB9 : Hid _ := HB8.out.trans (hb.mono HB8.out.size)
      clear hb HE8 HX8 HB8
      obtain ⟨c0, c1, c2, q3, q4, c5⟩ := HE9.out.cells
      have c3 : w9.cell? ⟨g1, 3, none⟩ = some (.string ⟨#[]⟩) := q3
      have c4 : w9.cell? ⟨g1, 4, none⟩ = some (.string ⟨#[]⟩) := q4
      clear q3 q4
      have d0 : w9.cell? ⟨g2, 0, none⟩ = some (.string ⟨#[]⟩) := (EntAt.cells HX9.out).1
      have d1 : w9.cell? ⟨g2, 1, none⟩ = some (.string ⟨#[]⟩) := (EntAt.cells HX9.out).2.1
      have d2 : w9.cell? ⟨g2, 2, none⟩ = some (.string ⟨#[]⟩) := (EntAt.cells HX9.out).2.2.1
      have d3 : w9.cell? ⟨g2, 3, none⟩ = some (.string ⟨#[]⟩) := (EntAt.cells HX9.out).2.2.2.1
      have d4 : w9.cell? ⟨g2, 4, none⟩ = some (.string ⟨#[]⟩) := (EntAt.cells HX9.out).2.2.2.2.1
      have d5 : w9.cell? ⟨g2, 5, none⟩ = some (.int .i64 0) := (EntAt.cells HX9.out).2.2.2.2.2
      have hlt := HE9.out.lt
      have hlt2 := HX9.out.lt
      go_wp2
      go_ret
      exact ⟨rfl, HB9.out⟩
  · have hq := hcl.trans (if_neg hE)
    rw [show decide (Nm = []) = false by simp [hE]] at eN
    clear hcl hE hxf eu eJ
    generalize (TxtMath.runes Nm).length = n at *
    by_cases hn200 : 200 < n
    · rw [if_pos hn200] at hq
      rw [hq] at HCl
      have hn2 : (200 : Int) < (n : Int) := by omega
      clear hq
      rcases hpath with ⟨hg, hn⟩ | ⟨hg, hn⟩
      · rw [show decide (g = []) = false by simp [hg]] at eg
        clear hg eN
        have hn' := hn.symm
        clear hn
        subst hn'
        have HCl2 : Hid (∀ w, MaxLen w → Calls Tryd.prog 6 #[.agg #[.string (strN F), .string (strN s), .string (strN t), .string ⟨#[]⟩, .string ⟨#[]⟩, .int .i64 (at_ : Int)]] w fun r w' => r = .returned (.tuple #[.agg #[.string ⟨#[]⟩, .string ⟨#[]⟩, .string ⟨#[]⟩, .string ⟨#[]⟩, .string ⟨#[]⟩, .int .i64 0], .int .i64 23]) ∧ Below w.heap.size w w') := HCl.out
        clear HCl
        go_enter Tryd.func3, Tryd.ntmps3
        go_wp2_with fail
        refine Calls.mono HK.out ?_
        rintro r w1 ⟨rfl, hb⟩
        have HB1 : Hid _ := hb
        clear hb
        go_wp2_with fail
        refine Calls.mono (HAk.out _) ?_
        rintro r w2 ⟨rfl, hb⟩
        have HB2 : Hid _ := HB1.out.trans (hb.mono HB1.out.size)
        clear hb HB1
        have HE3 : Hid (EntAt (w2.alloc (.cells #[.string (strN F), .string (strN s), .string (strN t), .string ⟨#[]⟩, .string ⟨#[]⟩, .int .i64 (at_ : Int)] 26)) w2.heap.size ⟨F, s, t, [], [], (at_ : Int)⟩) := EntAt.new w2 ⟨F, s, t, [], [], (at_ : Int)⟩
        have HB3 : Hid (Below W.heap.size W (w2.alloc (.cells #[.string (strN F), .string (strN s), .string (strN t), .string ⟨#[]⟩, .string ⟨#[]⟩, .int .i64 (at_ : Int)] 26))) := HB2.out.alloc HB2.out.size _
        have HG3 : Hid (W.heap.size ≤ w2.heap.size) := HB2.out.size
        go_wp2_with fail
        generalize (w2.alloc (.cells #[.string (strN F), .string (strN s), .string (strN t), .string ⟨#[]⟩, .string ⟨#[]⟩, .int .i64 (at_ : Int)] 26)) = w3 at *
        generalize w2.heap.size = g1 at *
        have HE5 : Hid _ := HE3.out
        have HB5 : Hid _ := HB3.out
        clear HE3 HB3
        have HT5 : Hid (Env w3) := HT0.out.later HB5.out
        refine Calls.mono (HCl2.out _ HT5.out.max) ?_
        rintro r w6 ⟨rfl, hb⟩
        have HE6 : Hid _ := HE5.out.later hb HE5.out.lt
        have HB6 : Hid _ := HB5.out.trans (hb.mono HB5.out.size)
        clear hb HB5 HE5 HT5 HCl2
        have HX7 : Hid (EntAt (w6.alloc (.cells #[.string ⟨#[]⟩, .string ⟨#[]⟩, .string ⟨#[]⟩, .string ⟨#[]⟩, .string ⟨#[]⟩, .int .i64 0] 26)) w6.heap.size EntMath.zero) := EntAt.new w6 EntMath.zero
        have HE7 : Hid (EntAt (w6.alloc (.cells #[.string ⟨#[]⟩, .string ⟨#[]⟩, .string ⟨#[]⟩, .string ⟨#[]⟩, .string ⟨#[]⟩, .int .i64 0] 26)) g1 _) := HE6.out.alloc _
        have HB7 : Hid (Below W.heap.size W (w6.alloc (.cells #[.string ⟨#[]⟩, .string ⟨#[]⟩, .string ⟨#[]⟩, .string ⟨#[]⟩, .string ⟨#[]⟩, .int .i64 0] 26))) := HB6.out.alloc HB6.out.size _
        go_wp2_with fail
        generalize (w6.alloc (.cells #[.string ⟨#[]⟩, .string ⟨#[]⟩, .string ⟨#[]⟩, .string ⟨#[]⟩, .string ⟨#[]⟩, .int .i64 0] 26)) = w7 at *
        generalize w6.heap.size = g2 at *
        clear HE6 HB6
        refine Calls.mono (HTc.out _) ?_
        rintro r w8 ⟨rfl, hb⟩
        have HE8 : Hid _ := HE7.out.later hb HE7.out.lt
        have HX8 : Hid _ := HX7.out.later hb HX7.out.lt
        have HB8 : Hid _ := HB7.out.trans (hb.mono HB7.out.size)
        clear hb HE7 HX7 HB7
        go_wp2_with fail
        refine Calls.mono (HCu.out _) ?_
        rintro r w9 ⟨rfl, hb⟩
        have HE9 : Hid _ := HE8.out.later hb HE8.out.lt
        have HX9 : Hid _ := HX8.out.later hb HX8.out.lt
        have HB9 : Hid _ := HB8.out.trans (hb.mono HB8.out.size)
        clear hb HE8 HX8 HB8
        obtain ⟨c0, c1, c2, q3, q4, c5⟩ := HE9.out.cells
        have c3 : w9.cell? ⟨g1, 3, none⟩ = some (.string ⟨#[]⟩) := q3
        have c4 : w9.cell? ⟨g1, 4, none⟩ = some (.string ⟨#[]⟩) := q4
        clear q3 q4
        have d0 : w9.cell? ⟨g2, 0, none⟩ = some (.string ⟨#[]⟩) := (EntAt.cells HX9.out).1
        have d1 : w9.cell? ⟨g2, 1, none⟩ = some (.string ⟨#[]⟩) := (EntAt.cells HX9.out).2.1
        have d2 : w9.cell? ⟨g2, 2, none⟩ = some (.string ⟨#[]⟩) := (EntAt.cells HX9.out).2.2.1
        have d3 : w9.cell? ⟨g2, 3, none⟩ = some (.string ⟨#[]⟩) := (EntAt.cells HX9.out).2.2.2.1
        have d4 : w9.cell? ⟨g2, 4, none⟩ = some (.string ⟨#[]⟩) := (EntAt.cells HX9.out).2.2.2.2.1
        have d5 : w9.cell? ⟨g2, 5, none⟩ = some (.int .i64 0) := (EntAt.cells HX9.out).2.2.2.2.2
        have hlt := HE9.out.lt
        have hlt2 := HX9.out.lt
        go_wp2_with fail
        refine Calls.mono (HRu.out _) ?_
        rintro r w10 ⟨rfl, hb⟩
        have HE10 : Hid _ := HE9.out.later hb HE9.out.lt
        have HX10 : Hid _ := HX9.out.later hb HX9.out.lt
        have HB10 : Hid _ := HB9.out.trans (hb.mono HB9.out.size)
        clear hb HE9 HX9 HB9 c0 c1 c2 c3 c4 c5 d0 d1 d2 d3 d4 d5 hlt hlt2
        obtain ⟨c0, c1, c2, q3, q4, c5⟩ := HE10.out.cells
        have c3 : w10.cell? ⟨g1, 3, none⟩ = some (.string ⟨#[]⟩) := q3
        have c4 : w10.cell? ⟨g1, 4, none⟩ = some (.string ⟨#[]⟩) := q4
        clear q3 q4
        have d0 : w10.cell? ⟨g2, 0, none⟩ = some (.string ⟨#[]⟩) := (EntAt.cells HX10.out).1
        have d1 : w10.cell? ⟨g2, 1, none⟩ = some (.string ⟨#[]⟩) := (EntAt.cells HX10.out).2.1
        have d2 : w10.cell? ⟨g2, 2, none⟩ = some (.string ⟨#[]⟩) := (EntAt.cells HX10.out).2.2.1
        have d3 : w10.cell? ⟨g2, 3, none⟩ = some (.string ⟨#[]⟩) := (EntAt.cells HX10.out).2.2.2.1
        have d4 : w10.cell? ⟨g2, 4, none⟩ = some (.string ⟨#[]⟩) := (EntAt.cells HX10.out).2.2.2.2.1
        have d5 : w10.cell? ⟨g2, 5, none⟩ = some (.int .i64 0) := (EntAt.cells HX10.out).2.2.2.2.2
        have hlt := HE10.out.lt
        have hlt2 := HX10.out.lt
        clear hsb htb hsl htl hk hj ha hsz htz hFp hFb hFl hJp hJb hJl hJn hwa hai hLp hfit hgb hgl hub hul hNb hNl
        go_wp2
        go_ret
        exact ⟨rfl, HB10.out⟩
      · rw [show decide (g = []) = true by simp [hg]] at eg
        clear hg
        have hn' := hn.symm
        clear hn
        subst hn'
        have HCl2 : Hid (∀ w, MaxLen w → Calls Tryd.prog 6 #[.agg #[.string (strN F), .string (strN s), .string (strN t), .string ⟨#[]⟩, .string ⟨#[]⟩, .int .i64 (at_ : Int)]] w fun r w' => r = .returned (.tuple #[.agg #[.string ⟨#[]⟩, .string ⟨#[]⟩, .string ⟨#[]⟩, .string ⟨#[]⟩, .string ⟨#[]⟩, .int .i64 0], .int .i64 23]) ∧ Below w.heap.size w w') := HCl.out
        clear HCl
        go_enter Tryd.func3, Tryd.ntmps3
        go_wp2_with fail
        refine Calls.mono HK.out ?_
        rintro r w1 ⟨rfl, hb⟩
        have HB1 : Hid _ := hb
        clear hb
        go_wp2_with fail
        refine Calls.mono (HAk.out _) ?_
        rintro r w2 ⟨rfl, hb⟩
        have HB2 : Hid _ := HB1.out.trans (hb.mono HB1.out.size)
        clear hb HB1
        have HE3 : Hid (EntAt (w2.alloc (.cells #[.string (strN F), .string (strN s), .string (strN t), .string ⟨#[]⟩, .string ⟨#[]⟩, .int .i64 (at_ : Int)] 26)) w2.heap.size ⟨F, s, t, [], [], (at_ : Int)⟩) := EntAt.new w2 ⟨F, s, t, [], [], (at_ : Int)⟩
        have HB3 : Hid (Below W.heap.size W (w2.alloc (.cells #[.string (strN F), .string (strN s), .string (strN t), .string ⟨#[]⟩, .string ⟨#[]⟩, .int .i64 (at_ : Int)] 26))) := HB2.out.alloc HB2.out.size _
        have HG3 : Hid (W.heap.size ≤ w2.heap.size) := HB2.out.size
        go_wp2_with fail
        generalize (w2.alloc (.cells #[.string (strN F), .string (strN s), .string (strN t), .string ⟨#[]⟩, .string ⟨#[]⟩, .int .i64 (at_ : Int)] 26)) = w3 at *
        generalize w2.heap.size = g1 at *
        have HE5 : Hid _ := HE3.out
        have HB5 : Hid _ := HB3.out
        clear HE3 HB3
        have HT5 : Hid (Env w3) := HT0.out.later HB5.out
        refine Calls.mono (HCl2.out _ HT5.out.max) ?_
        rintro r w6 ⟨rfl, hb⟩
        have HE6 : Hid _ := HE5.out.later hb HE5.out.lt
        have HB6 : Hid _ := HB5.out.trans (hb.mono HB5.out.size)
        clear hb HB5 HE5 HT5 HCl2
        have HX7 : Hid (EntAt (w6.alloc (.cells #[.string ⟨#[]⟩, .string ⟨#[]⟩, .string ⟨#[]⟩, .string ⟨#[]⟩, .string ⟨#[]⟩, .int .i64 0] 26)) w6.heap.size EntMath.zero) := EntAt.new w6 EntMath.zero
        have HE7 : Hid (EntAt (w6.alloc (.cells #[.string ⟨#[]⟩, .string ⟨#[]⟩, .string ⟨#[]⟩, .string ⟨#[]⟩, .string ⟨#[]⟩, .int .i64 0] 26)) g1 _) := HE6.out.alloc _
        have HB7 : Hid (Below W.heap.size W (w6.alloc (.cells #[.string ⟨#[]⟩, .string ⟨#[]⟩, .string ⟨#[]⟩, .string ⟨#[]⟩, .string ⟨#[]⟩, .int .i64 0] 26))) := HB6.out.alloc HB6.out.size _
        go_wp2_with fail
        generalize (w6.alloc (.cells #[.string ⟨#[]⟩, .string ⟨#[]⟩, .string ⟨#[]⟩, .string ⟨#[]⟩, .string ⟨#[]⟩, .int .i64 0] 26)) = w7 at *
        generalize w6.heap.size = g2 at *
        clear HE6 HB6
        refine Calls.mono (HTc.out _) ?_
        rintro r w8 ⟨rfl, hb⟩
        have HE8 : Hid _ := HE7.out.later hb HE7.out.lt
        have HX8 : Hid _ := HX7.out.later hb HX7.out.lt
        have HB8 : Hid _ := HB7.out.trans (hb.mono HB7.out.size)
        clear hb HE7 HX7 HB7
        go_wp2_with fail
        refine Calls.mono (HCu.out _) ?_
        rintro r w9 ⟨rfl, hb⟩
        have HE9 : Hid _ := HE8.out.later hb HE8.out.lt
        have HX9 : Hid _ := HX8.out.later hb HX8.out.lt
        have HB9 : Hid _ := HB8.out.trans (hb.mono HB8.out.size)
        clear hb HE8 HX8 HB8
        obtain ⟨c0, c1, c2, q3, q4, c5⟩ := HE9.out.cells
        have c3 : w9.cell? ⟨g1, 3, none⟩ = some (.string ⟨#[]⟩) := q3
        have c4 : w9.cell? ⟨g1, 4, none⟩ = some (.string ⟨#[]⟩) := q4
        clear q3 q4
        have d0 : w9.cell? ⟨g2, 0, none⟩ = some (.string ⟨#[]⟩) := (EntAt.cells HX9.out).1
        have d1 : w9.cell? ⟨g2, 1, none⟩ = some (.string ⟨#[]⟩) := (EntAt.cells HX9.out).2.1
        have d2 : w9.cell? ⟨g2, 2, none⟩ = some (.string ⟨#[]⟩) := (EntAt.cells HX9.out).2.2.1
        have d3 : w9.cell? ⟨g2, 3, none⟩ = some (.string ⟨#[]⟩) := (EntAt.cells HX9.out).2.2.2.1
        have d4 : w9.cell? ⟨g2, 4, none⟩ = some (.string ⟨#[]⟩) := (EntAt.cells HX9.out).2.2.2.2.1
        have d5 : w9.cell? ⟨g2, 5, none⟩ = some (.int .i64 0) := (EntAt.cells HX9.out).2.2.2.2.2
        have hlt := HE9.out.lt
        have hlt2 := HX9.out.lt
        go_wp2_with fail
        refine Calls.mono (HRu.out _) ?_
        rintro r w10 ⟨rfl, hb⟩
        have HE10 : Hid _ := HE9.out.later hb HE9.out.lt
        have HX10 : Hid _ := HX9.out.later hb HX9.out.lt
        have HB10 : Hid _ := HB9.out.trans (hb.mono HB9.out.size)
        clear hb HE9 HX9 HB9 c0 c1 c2 c3 c4 c5 d0 d1 d2 d3 d4 d5 hlt hlt2
        obtain ⟨c0, c1, c2, q3, q4, c5⟩ := HE10.out.cells
        have c3 : w10.cell? ⟨g1, 3, none⟩ = some (.string ⟨#[]⟩) := q3
        have c4 : w10.cell? ⟨g1, 4, none⟩ = some (.string ⟨#[]⟩) := q4
        clear q3 q4
        have d0 : w10.cell? ⟨g2, 0, none⟩ = some (.string ⟨#[]⟩) := (EntAt.cells HX10.out).1
        have d1 : w10.cell? ⟨g2, 1, none⟩ = some (.string ⟨#[]⟩) := (EntAt.cells HX10.out).2.1
        have d2 : w10.cell? ⟨g2, 2, none⟩ = some (.string ⟨#[]⟩) := (EntAt.cells HX10.out).2.2.1
        have d3 : w10.cell? ⟨g2, 3, none⟩ = some (.string ⟨#[]⟩) := (EntAt.cells HX10.out).2.2.2.1
        have d4 : w10.cell? ⟨g2, 4, none⟩ = some (.string ⟨#[]⟩) := (EntAt.cells HX10.out).2.2.2.2.1
        have d5 : w10.cell? ⟨g2, 5, none⟩ = some (.int .i64 0) := (EntAt.cells HX10.out).2.2.2.2.2
        have hlt := HE10.out.lt
        have hlt2 := HX10.out.lt
        clear hsb htb hsl htl hk hj ha hsz htz hFp hFb hFl hJp hJb hJl hJn hwa hai hLp hfit hgb hgl hub hul hNb hNl
        go_wp2
        go_ret
        exact ⟨rfl, HB10.out⟩
    · rw [if_neg hn200] at hq
      rw [hq] at HCl
      have hn2 : (n : Int) ≤ 200 := by omega
      clear hq hn200
      rcases hpath with ⟨hg, hn⟩ | ⟨hg, hn⟩
      · rw [show decide (g = []) = false by simp [hg]] at eg
        clear hg eN
        have hn' := hn.symm
        clear hn
        subst hn'
        have HCl2 : Hid (∀ w, MaxLen w → Calls Tryd.prog 6 #[.agg #[.string (strN F), .string (strN s), .string (strN t), .string ⟨#[]⟩, .string ⟨#[]⟩, .int .i64 (at_ : Int)]] w fun r w' => r = .returned (.tuple #[.agg #[.string (strN F), .string (strN g), .string (strN u), .string ⟨#[]⟩, .string ⟨#[]⟩, .int .i64 (at_ : Int)], .int .i64 0]) ∧ Below w.heap.size w w') := HCl.out
        clear HCl
        go_enter Tryd.func3, Tryd.ntmps3
        go_wp2_with fail
        refine Calls.mono HK.out ?_
        rintro r w1 ⟨rfl, hb⟩
        have HB1 : Hid _ := hb
        clear hb
        go_wp2_with fail
        refine Calls.mono (HAk.out _) ?_
        rintro r w2 ⟨rfl, hb⟩
        have HB2 : Hid _ := HB1.out.trans (hb.mono HB1.out.size)
        clear hb HB1
        have HE3 : Hid (EntAt (w2.alloc (.cells #[.string (strN F), .string (strN s), .string (strN t), .string ⟨#[]⟩, .string ⟨#[]⟩, .int .i64 (at_ : Int)] 26)) w2.heap.size ⟨F, s, t, [], [], (at_ : Int)⟩) := EntAt.new w2 ⟨F, s, t, [], [], (at_ : Int)⟩
        have HB3 : Hid (Below W.heap.size W (w2.alloc (.cells #[.string (strN F), .string (strN s), .string (strN t), .string ⟨#[]⟩, .string ⟨#[]⟩, .int .i64 (at_ : Int)] 26))) := HB2.out.alloc HB2.out.size _
        have HG3 : Hid (W.heap.size ≤ w2.heap.size) := HB2.out.size
        go_wp2_with fail
        generalize (w2.alloc (.cells #[.string (strN F), .string (strN s), .string (strN t), .string ⟨#[]⟩, .string ⟨#[]⟩, .int .i64 (at_ : Int)] 26)) = w3 at *
        generalize w2.heap.size = g1 at *
        have HE5 : Hid _ := HE3.out
        have HB5 : Hid _ := HB3.out
        clear HE3 HB3
        have HT5 : Hid (Env w3) := HT0.out.later HB5.out
        refine Calls.mono (HCl2.out _ HT5.out.max) ?_
        rintro r w6 ⟨rfl, hb⟩
        have HE6 : Hid _ := HE5.out.later hb HE5.out.lt
        have HB6 : Hid _ := HB5.out.trans (hb.mono HB5.out.size)
        clear hb HB5 HE5 HT5 HCl2
        have HX7 : Hid (EntAt (w6.alloc (.cells #[.string (strN F), .string (strN g), .string (strN u), .string ⟨#[]⟩, .string ⟨#[]⟩, .int .i64 (at_ : Int)] 26)) w6.heap.size ⟨F, g, u, [], [], (at_ : Int)⟩) := EntAt.new w6 ⟨F, g, u, [], [], (at_ : Int)⟩
        have HE7 : Hid (EntAt (w6.alloc (.cells #[.string (strN F), .string (strN g), .string (strN u), .string ⟨#[]⟩, .string ⟨#[]⟩, .int .i64 (at_ : Int)] 26)) g1 _) := HE6.out.alloc _
        have HB7 : Hid (Below W.heap.size W (w6.alloc (.cells #[.string (strN F), .string (strN g), .string (strN u), .string ⟨#[]⟩, .string ⟨#[]⟩, .int .i64 (at_ : Int)] 26))) := HB6.out.alloc HB6.out.size _
        go_wp2_with fail
        generalize (w6.alloc (.cells #[.string (strN F), .string (strN g), .string (strN u), .string ⟨#[]⟩, .string ⟨#[]⟩, .int .i64 (at_ : Int)] 26)) = w7 at *
        generalize w6.heap.size = g2 at *
        clear HE6 HB6
        refine Calls.mono (HTc.out _) ?_
        rintro r w8 ⟨rfl, hb⟩
        have HE8 : Hid _ := HE7.out.later hb HE7.out.lt
        have HX8 : Hid _ := HX7.out.later hb HX7.out.lt
        have HB8 : Hid _ := HB7.out.trans (hb.mono HB7.out.size)
        clear hb HE7 HX7 HB7
        go_wp2_with fail
        refine Calls.mono (HCu.out _) ?_
        rintro r w9 ⟨rfl, hb⟩
        have HE9 : Hid _ := HE8.out.later hb HE8.out.lt
        have HX9 : Hid _ := HX8.out.later hb HX8.out.lt
        have HB9 : Hid _ := HB8.out.trans (hb.mono HB8.out.size)
        clear hb HE8 HX8 HB8
        obtain ⟨c0, c1, c2, q3, q4, c5⟩ := HE9.out.cells
        have c3 : w9.cell? ⟨g1, 3, none⟩ = some (.string ⟨#[]⟩) := q3
        have c4 : w9.cell? ⟨g1, 4, none⟩ = some (.string ⟨#[]⟩) := q4
        clear q3 q4
        have d0 : w9.cell? ⟨g2, 0, none⟩ = some (.string (strN F)) := (EntAt.cells HX9.out).1
        have d1 : w9.cell? ⟨g2, 1, none⟩ = some (.string (strN g)) := (EntAt.cells HX9.out).2.1
        have d2 : w9.cell? ⟨g2, 2, none⟩ = some (.string (strN u)) := (EntAt.cells HX9.out).2.2.1
        have d3 : w9.cell? ⟨g2, 3, none⟩ = some (.string ⟨#[]⟩) := (EntAt.cells HX9.out).2.2.2.1
        have d4 : w9.cell? ⟨g2, 4, none⟩ = some (.string ⟨#[]⟩) := (EntAt.cells HX9.out).2.2.2.2.1
        have d5 : w9.cell? ⟨g2, 5, none⟩ = some (.int .i64 (at_ : Int)) := (EntAt.cells HX9.out).2.2.2.2.2
        have hlt := HE9.out.lt
        have hlt2 := HX9.out.lt
        go_wp2_with fail
        refine Calls.mono (HRu.out _) ?_
        rintro r w10 ⟨rfl, hb⟩
        have HE10 : Hid _ := HE9.out.later hb HE9.out.lt
        have HX10 : Hid _ := HX9.out.later hb HX9.out.lt
        have HB10 : Hid _ := HB9.out.trans (hb.mono HB9.out.size)
        clear hb HE9 HX9 HB9 c0 c1 c2 c3 c4 c5 d0 d1 d2 d3 d4 d5 hlt hlt2
        obtain ⟨c0, c1, c2, q3, q4, c5⟩ := HE10.out.cells
        have c3 : w10.cell? ⟨g1, 3, none⟩ = some (.string ⟨#[]⟩) := q3
        have c4 : w10.cell? ⟨g1, 4, none⟩ = some (.string ⟨#[]⟩) := q4
        clear q3 q4
        have d0 : w10.cell? ⟨g2, 0, none⟩ = some (.string (strN F)) := (EntAt.cells HX10.out).1
        have d1 : w10.cell? ⟨g2, 1, none⟩ = some (.string (strN g)) := (EntAt.cells HX10.out).2.1
        have d2 : w10.cell? ⟨g2, 2, none⟩ = some (.string (strN u)) := (EntAt.cells HX10.out).2.2.1
        have d3 : w10.cell? ⟨g2, 3, none⟩ = some (.string ⟨#[]⟩) := (EntAt.cells HX10.out).2.2.2.1
        have d4 : w10.cell? ⟨g2, 4, none⟩ = some (.string ⟨#[]⟩) := (EntAt.cells HX10.out).2.2.2.2.1
        have d5 : w10.cell? ⟨g2, 5, none⟩ = some (.int .i64 (at_ : Int)) := (EntAt.cells HX10.out).2.2.2.2.2
        have hlt := HE10.out.lt
        have hlt2 := HX10.out.lt
        clear hsb htb hsl htl hk hj ha hsz htz hFp hFb hFl hJp hJb hJl hJn hwa hai hLp hfit hgb hgl hub hul hNb hNl
        go_wp2
        go_ret
        exact ⟨rfl, HB10.out⟩
      · rw [show decide (g = []) = true by simp [hg]] at eg
        clear hg
        have hn' := hn.symm
        clear hn
        subst hn'
        have HCl2 : Hid (∀ w, MaxLen w → Calls Tryd.prog 6 #[.agg #[.string (strN F), .string (strN s), .string (strN t), .string ⟨#[]⟩, .string ⟨#[]⟩, .int .i64 (at_ : Int)]] w fun r w' => r = .returned (.tuple #[.agg #[.string (strN F), .string (strN u), .string (strN u), .string ⟨#[]⟩, .string ⟨#[]⟩, .int .i64 (at_ : Int)], .int .i64 0]) ∧ Below w.heap.size w w') := HCl.out
        clear HCl
        go_enter Tryd.func3, Tryd.ntmps3
        go_wp2_with fail
        refine Calls.mono HK.out ?_
        rintro r w1 ⟨rfl, hb⟩
        have HB1 : Hid _ := hb
        clear hb
        go_wp2_with fail
        refine Calls.mono (HAk.out _) ?_
        rintro r w2 ⟨rfl, hb⟩
        have HB2 : Hid _ := HB1.out.trans (hb.mono HB1.out.size)
        clear hb HB1
        have HE3 : Hid (EntAt (w2.alloc (.cells #[.string (strN F), .string (strN s), .string (strN t), .string ⟨#[]⟩, .string ⟨#[]⟩, .int .i64 (at_ : Int)] 26)) w2.heap.size ⟨F, s, t, [], [], (at_ : Int)⟩) := EntAt.new w2 ⟨F, s, t, [], [], (at_ : Int)⟩
        have HB3 : Hid (Below W.heap.size W (w2.alloc (.cells #[.string (strN F), .string (strN s), .string (strN t), .string ⟨#[]⟩, .string ⟨#[]⟩, .int .i64 (at_ : Int)] 26))) := HB2.out.alloc HB2.out.size _
        have HG3 : Hid (W.heap.size ≤ w2.heap.size) := HB2.out.size
        go_wp2_with fail
        generalize (w2.alloc (.cells #[.string (strN F), .string (strN s), .string (strN t), .string ⟨#[]⟩, .string ⟨#[]⟩, .int .i64 (at_ : Int)] 26)) = w3 at *
        generalize w2.heap.size = g1 at *
        have HE5 : Hid _ := HE3.out
        have HB5 : Hid _ := HB3.out
        clear HE3 HB3
        have HT5 : Hid (Env w3) := HT0.out.later HB5.out
        refine Calls.mono (HCl2.out _ HT5.out.max) ?_
        rintro r w6 ⟨rfl, hb⟩
        have HE6 : Hid _ := HE5.out.later hb HE5.out.lt
        have HB6 : Hid _ := HB5.out.trans (hb.mono HB5.out.size)
        clear hb HB5 HE5 HT5 HCl2
        have HX7 : Hid (EntAt (w6.alloc (.cells #[.string (strN F), .string (strN u), .string (strN u), .string ⟨#[]⟩, .string ⟨#[]⟩, .int .i64 (at_ : Int)] 26)) w6.heap.size ⟨F, u, u, [], [], (at_ : Int)⟩) := EntAt.new w6 ⟨F, u, u, [], [], (at_ : Int)⟩
        have HE7 : Hid (EntAt (w6.alloc (.cells #[.string (strN F), .string (strN u), .string (strN u), .string ⟨#[]⟩, .string ⟨#[]⟩, .int .i64 (at_ : Int)] 26)) g1 _) := HE6.out.alloc _
        have HB7 : Hid (Below W.heap.size W (w6.alloc (.cells #[.string (strN F), .string (strN u), .string (strN u), .string ⟨#[]⟩, .string ⟨#[]⟩, .int .i64 (at_ : Int)] 26))) := HB6.out.alloc HB6.out.size _
        go_wp2_with fail
        generalize (w6.alloc (.cells #[.string (strN F), .string (strN u), .string (strN u), .string ⟨#[]⟩, .string ⟨#[]⟩, .int .i64 (at_ : Int)] 26)) = w7 at *
        generalize w6.heap.size = g2 at *
        clear HE6 HB6
        refine Calls.mono (HTc.out _) ?_
        rintro r w8 ⟨rfl, hb⟩
        have HE8 : Hid _ := HE7.out.later hb HE7.out.lt
        have HX8 : Hid _ := HX7.out.later hb HX7.out.lt
        have HB8 : Hid _ := HB7.out.trans (hb.mono HB7.out.size)
        clear hb HE7 HX7 HB7
        go_wp2_with fail
        refine Calls.mono (HCu.out _) ?_
        rintro r w9 ⟨rfl, hb⟩
        have HE9 : Hid _ := HE8.out.later hb HE8.out.lt
        have HX9 : Hid _ := HX8.out.later hb HX8.out.lt
        have HB9 : Hid _ := HB8.out.trans (hb.mono HB8.out.size)
        clear hb HE8 HX8 HB8
        obtain ⟨c0, c1, c2, q3, q4, c5⟩ := HE9.out.cells
        have c3 : w9.cell? ⟨g1, 3, none⟩ = some (.string ⟨#[]⟩) := q3
        have c4 : w9.cell? ⟨g1, 4, none⟩ = some (.string ⟨#[]⟩) := q4
        clear q3 q4
        have d0 : w9.cell? ⟨g2, 0, none⟩ = some (.string (strN F)) := (EntAt.cells HX9.out).1
        have d1 : w9.cell? ⟨g2, 1, none⟩ = some (.string (strN u)) := (EntAt.cells HX9.out).2.1
        have d2 : w9.cell? ⟨g2, 2, none⟩ = some (.string (strN u)) := (EntAt.cells HX9.out).2.2.1
        have d3 : w9.cell? ⟨g2, 3, none⟩ = some (.string ⟨#[]⟩) := (EntAt.cells HX9.out).2.2.2.1
        have d4 : w9.cell? ⟨g2, 4, none⟩ = some (.string ⟨#[]⟩) := (EntAt.cells HX9.out).2.2.2.2.1
        have d5 : w9.cell? ⟨g2, 5, none⟩ = some (.int .i64 (at_ : Int)) := (EntAt.cells HX9.out).2.2.2.2.2
        have hlt := HE9.out.lt
        have hlt2 := HX9.out.lt
        go_wp2_with fail
        refine Calls.mono (HRu.out _) ?_
        rintro r w10 ⟨rfl, hb⟩
        have HE10 : Hid _ := HE9.out.later hb HE9.out.lt
        have HX10 : Hid _ := HX9.out.later hb HX9.out.lt
        have HB10 : Hid _ := HB9.out.trans (hb.mono HB9.out.size)
        clear hb HE9 HX9 HB9 c0 c1 c2 c3 c4 c5 d0 d1 d2 d3 d4 d5 hlt hlt2
        obtain ⟨c0, c1, c2, q3, q4, c5⟩ := HE10.out.cells
        have c3 : w10.cell? ⟨g1, 3, none⟩ = some (.string ⟨#[]⟩) := q3
        have c4 : w10.cell? ⟨g1, 4, none⟩ = some (.string ⟨#[]⟩) := q4
        clear q3 q4
        have d0 : w10.cell? ⟨g2, 0, none⟩ = some (.string (strN F)) := (EntAt.cells HX10.out).1
        have d1 : w10.cell? ⟨g2, 1, none⟩ = some (.string (strN u)) := (EntAt.cells HX10.out).2.1
        have d2 : w10.cell? ⟨g2, 2, none⟩ = some (.string (strN u)) := (EntAt.cells HX10.out).2.2.1
        have d3 : w10.cell? ⟨g2, 3, none⟩ = some (.string ⟨#[]⟩) := (EntAt.cells HX10.out).2.2.2.1
        have d4 : w10.cell? ⟨g2, 4, none⟩ = some (.string ⟨#[]⟩) := (EntAt.cells HX10.out).2.2.2.2.1
        have d5 : w10.cell? ⟨g2, 5, none⟩ = some (.int .i64 (at_ : Int)) := (EntAt.cells HX10.out).2.2.2.2.2
        have hlt := HE10.out.lt
        have hlt2 := HX10.out.lt
        clear hsb htb hsl htl hk hj ha hsz htz hFp hFb hFl hJp hJb hJl hJn hwa hai hLp hfit hgb hgl hub hul hNb hNl
        go_wp2
        go_ret
        exact ⟨rfl, HB10.out⟩

set_option maxHeartbeats 16000000 in
theorem entryNames_T (s t : List Nat) (k j at_ : Nat) (W : World) (ht : Env W) (hsb : ∀ c ∈ s, c < 256) (htb : ∀ c ∈ t, c < 256) (hsl : s.length ≤ 900) (htl : t.length ≤ 600) (hk : k < 256) (hj : j < 256) (ha : at_ < 65536) :
    Calls Tryd.prog 3 #[.string (strN s), .string (strN t), .int .u8 (k : Int), .int .u8 (j : Int), .bool true, .int .u16 (at_ : Int)] W fun r W' => r = .returned (.bool true) ∧ Below W.heap.size W W' := by
  have HT0 : Hid _ := ht
  have HK : Hid _ := known_any W ht
  have hsz := strN_size s
  have htz := strN_size t
  have HAk : Hid (∀ w, _) := fun w => seatAddr_any k w hk
  have HAj : Hid (∀ w, _) := fun w => seatAddr_any j w hj
  have hFp := addrs_right _ (seatA5_mem k)
  have hJp := addrs_right _ (seatA5_mem j)
  have hJn := addrs_ne _ (seatA5_mem j)
  obtain ⟨hFb, hFl, _⟩ := addrs_lt _ (seatA5_mem k)
  obtain ⟨hJb, hJl, _⟩ := addrs_lt _ (seatA5_mem j)
  have hwa : IntKind.i64.wrap (at_ : Int) = (at_ : Int) := by rw [IntKind.wrap_i64]; omega
  generalize seatA5 k = F at *
  generalize seatA5 j = J at *
  have hai : (at_ : Int) ≤ 65535 := by omega
  have hLp : EntMath.linkP J = (J, 0) := by unfold EntMath.linkP; rw [if_neg hJn]; exact hJp
  have hcl := clean_named (guid := s) (title := t) (n := (at_ : Int)) hFp hLp (by omega) hai
  have hfit : EFit ⟨F, s, t, J, [], (at_ : Int)⟩ := ⟨hFb, hsb, htb, hJb, by simp, by show F.length ≤ 10000; omega, by show s.length ≤ 10000; omega, by show t.length ≤ 10000; omega, by show J.length ≤ 10000; omega, by simp, by show _ ≤ (at_ : Int); omega, by show (at_ : Int) ≤ _; omega⟩
  have HCl : Hid (∀ w, MaxLen w → _) := fun w ht => entClean_any ⟨F, s, t, J, [], (at_ : Int)⟩ w ht hfit
  have HTc : Hid (∀ w, _) := fun w => clean_any s w hsb (by omega)
  have HCu : Hid (∀ w, _) := fun w => cut_any t 120 w htb (by omega) (by omega)
  have hgb := cleanB_lt s
  have hgl := cleanB_len s
  have hub := EntMath.cutB_lt t 120
  have hul := EntMath.cutB_len t 120
  have hxf := EntMath.clean_any_fit ⟨F, s, t, J, [], (at_ : Int)⟩
  generalize TxtMath.cleanB s = g at *
  generalize TxtMath.cutB t 120 = u at *
  have eg := strN_nil_eq g hgb
  have eu := strN_nil_eq u hub
  have eJ := strN_nil_eq J hJb
  clear ht
  suffices H : ∀ Nm : List Nat, (∀ c ∈ Nm, c < 256) → Nm.length ≤ 10000 → guidOf g J u = Nm → ((g ≠ [] ∧ Nm = g) ∨ (g = [] ∧ Nm = J)) →
      Calls Tryd.prog 3 #[.string (strN s), .string (strN t), .int .u8 (k : Int), .int .u8 (j : Int), .bool true, .int .u16 (at_ : Int)] W fun r W' => r = .returned (.bool true) ∧ Below W.heap.size W W' by
    by_cases hg : g = []
    · exact H J hJb (by omega) (by unfold EntMath.guidOf; rw [if_pos hg, if_neg hJn]) (.inr ⟨hg, rfl⟩)
    · exact H g hgb (by omega) (by unfold EntMath.guidOf; rw [if_neg hg]) (.inl ⟨hg, rfl⟩)
  intro Nm hNb hNl hNm hpath
  rw [hNm] at hcl
  have HRu : Hid (∀ w, _) := fun w => runes_any Nm w hNb (by omega)
  have eN := strN_nil_eq Nm hNb
  have HNm : Hid _ := hNm
  clear hNm
  by_cases hE : Nm = []
  · have hq := hcl.trans (if_pos hE)
    rw [hq] at HCl
    rw [show decide (Nm = []) = true by simp [hE]] at eN
    have HE : Hid _ := hE
    clear hq hcl hE hxf eu eJ
    rcases hpath with ⟨hg, hn⟩ | ⟨hg, hn⟩
    · rw [show decide (g = []) = false by simp [hg]] at eg
      exact absurd (hn.symm.trans HE.out) hg
    · rw [show decide (g = []) = true by simp [hg]] at eg
      exact absurd (hn.symm.trans HE.out) hJn
  · have hq := hcl.trans (if_neg hE)
    rw [show decide (Nm = []) = false by simp [hE]] at eN
    clear hcl hE hxf eu eJ
    generalize (TxtMath.runes Nm).length = n at *
    by_cases hn200 : 200 < n
    · rw [if_pos hn200] at hq
      rw [hq] at HCl
      have hn2 : (200 : Int) < (n : Int) := by omega
      clear hq
      rcases hpath with ⟨hg, hn⟩ | ⟨hg, hn⟩
      · rw [show decide (g = []) = false by simp [hg]] at eg
        clear hg eN
        have hn' := hn.symm
        clear hn
        subst hn'
        have HCl2 : Hid (∀ w, MaxLen w → Calls Tryd.prog 6 #[.agg #[.string (strN F), .string (strN s), .string (strN t), .string (strN J), .string ⟨#[]⟩, .int .i64 (at_ : Int)]] w fun r w' => r = .returned (.tuple #[.agg #[.string ⟨#[]⟩, .string ⟨#[]⟩, .string ⟨#[]⟩, .string ⟨#[]⟩, .string ⟨#[]⟩, .int .i64 0], .int .i64 23]) ∧ Below w.heap.size w w') := HCl.out
        clear HCl
        go_enter Tryd.func3, Tryd.ntmps3
        go_wp2_with fail
        refine Calls.mono HK.out ?_
        rintro r w1 ⟨rfl, hb⟩
        have HB1 : Hid _ := hb
        clear hb
        go_wp2_with fail
        refine Calls.mono (HAk.out _) ?_
        rintro r w2 ⟨rfl, hb⟩
        have HB2 : Hid _ := HB1.out.trans (hb.mono HB1.out.size)
        clear hb HB1
        have HE3 : Hid (EntAt (w2.alloc (.cells #[.string (strN F), .string (strN s), .string (strN t), .string ⟨#[]⟩, .string ⟨#[]⟩, .int .i64 (at_ : Int)] 26)) w2.heap.size ⟨F, s, t, [], [], (at_ : Int)⟩) := EntAt.new w2 ⟨F, s, t, [], [], (at_ : Int)⟩
        have HB3 : Hid (Below W.heap.size W (w2.alloc (.cells #[.string (strN F), .string (strN s), .string (strN t), .string ⟨#[]⟩, .string ⟨#[]⟩, .int .i64 (at_ : Int)] 26))) := HB2.out.alloc HB2.out.size _
        have HG3 : Hid (W.heap.size ≤ w2.heap.size) := HB2.out.size
        go_wp2_with fail
        generalize (w2.alloc (.cells #[.string (strN F), .string (strN s), .string (strN t), .string ⟨#[]⟩, .string ⟨#[]⟩, .int .i64 (at_ : Int)] 26)) = w3 at *
        generalize w2.heap.size = g1 at *
        refine Calls.mono (HAj.out _) ?_
        rintro r w4 ⟨rfl, hb⟩
        have HE4 : Hid _ := HE3.out.later hb HE3.out.lt
        have HB4 : Hid _ := HB3.out.trans (hb.mono HB3.out.size)
        clear hb HB3 HE3
        obtain ⟨c0, c1, c2, c3, q4, c5⟩ := HE4.out.cells
        have c4 : w4.cell? ⟨g1, 4, none⟩ = some (.string ⟨#[]⟩) := q4
        clear q4
        have hf3 := HE4.out.frozen 3
        have hlt4 := HE4.out.lt
        have HE5 : Hid (EntAt (w4.setCell ⟨g1, 3, none⟩ (.string (strN J))) g1 ⟨F, s, t, J, [], (at_ : Int)⟩) := ⟨Arr.set HE4.out.arr 3 _⟩
        have HB5 : Hid (Below W.heap.size W (w4.setCell ⟨g1, 3, none⟩ (.string (strN J)))) := HB4.out.setCell HG3.out _
        go_wp2_with fail
        generalize w4.setCell ⟨g1, 3, none⟩ (.string (strN J)) = w5 at *
        clear c0 c1 c2 c3 c4 c5 hf3 hlt4 HE4 HB4
        have HT5 : Hid (Env w5) := HT0.out.later HB5.out
        refine Calls.mono (HCl2.out _ HT5.out.max) ?_
        rintro r w6 ⟨rfl, hb⟩
        have HE6 : Hid _ := HE5.out.later hb HE5.out.lt
        have HB6 : Hid _ := HB5.out.trans (hb.mono HB5.out.size)
        clear hb HB5 HE5 HT5 HCl2
        have HX7 : Hid (EntAt (w6.alloc (.cells #[.string ⟨#[]⟩, .string ⟨#[]⟩, .string ⟨#[]⟩, .string ⟨#[]⟩, .string ⟨#[]⟩, .int .i64 0] 26)) w6.heap.size EntMath.zero) := EntAt.new w6 EntMath.zero
        have HE7 : Hid (EntAt (w6.alloc (.cells #[.string ⟨#[]⟩, .string ⟨#[]⟩, .string ⟨#[]⟩, .string ⟨#[]⟩, .string ⟨#[]⟩, .int .i64 0] 26)) g1 _) := HE6.out.alloc _
        have HB7 : Hid (Below W.heap.size W (w6.alloc (.cells #[.string ⟨#[]⟩, .string ⟨#[]⟩, .string ⟨#[]⟩, .string ⟨#[]⟩, .string ⟨#[]⟩, .int .i64 0] 26))) := HB6.out.alloc HB6.out.size _
        go_wp2_with fail
        generalize (w6.alloc (.cells #[.string ⟨#[]⟩, .string ⟨#[]⟩, .string ⟨#[]⟩, .string ⟨#[]⟩, .string ⟨#[]⟩, .int .i64 0] 26)) = w7 at *
        generalize w6.heap.size = g2 at *
        clear HE6 HB6
        refine Calls.mono (HTc.out _) ?_
        rintro r w8 ⟨rfl, hb⟩
        have HE8 : Hid _ := HE7.out.later hb HE7.out.lt
        have HX8 : Hid _ := HX7.out.later hb HX7.out.lt
        have HB8 : Hid _ := HB7.out.trans (hb.mono HB7.out.size)
        clear hb HE7 HX7 HB7
        go_wp2_with fail
        refine Calls.mono (HCu.out _) ?_
        rintro r w9 ⟨rfl, hb⟩
        have HE9 : Hid _ := HE8.out.later hb HE8.out.lt
        have HX9 : Hid _ := HX8.out.later hb HX8.out.lt
        have HB9 : Hid _ := HB8.out.trans (hb.mono HB8.out.size)
        clear hb HE8 HX8 HB8
        obtain ⟨c0, c1, c2, q3, q4, c5⟩ := HE9.out.cells
        have c3 : w9.cell? ⟨g1, 3, none⟩ = some (.string (strN J)) := q3
        have c4 : w9.cell? ⟨g1, 4, none⟩ = some (.string ⟨#[]⟩) := q4
        clear q3 q4
        have d0 : w9.cell? ⟨g2, 0, none⟩ = some (.string ⟨#[]⟩) := (EntAt.cells HX9.out).1
        have d1 : w9.cell? ⟨g2, 1, none⟩ = some (.string ⟨#[]⟩) := (EntAt.cells HX9.out).2.1
        have d2 : w9.cell? ⟨g2, 2, none⟩ = some (.string ⟨#[]⟩) := (EntAt.cells HX9.out).2.2.1
        have d3 : w9.cell? ⟨g2, 3, none⟩ = some (.string ⟨#[]⟩) := (EntAt.cells HX9.out).2.2.2.1
        have d4 : w9.cell? ⟨g2, 4, none⟩ = some (.string ⟨#[]⟩) := (EntAt.cells HX9.out).2.2.2.2.1
        have d5 : w9.cell? ⟨g2, 5, none⟩ = some (.int .i64 0) := (EntAt.cells HX9.out).2.2.2.2.2
        have hlt := HE9.out.lt
        have hlt2 := HX9.out.lt
        go_wp2_with fail
        refine Calls.mono (HRu.out _) ?_
        rintro r w10 ⟨rfl, hb⟩
        have HE10 : Hid _ := HE9.out.later hb HE9.out.lt
        have HX10 : Hid _ := HX9.out.later hb HX9.out.lt
        have HB10 : Hid _ := HB9.out.trans (hb.mono HB9.out.size)
        clear hb HE9 HX9 HB9 c0 c1 c2 c3 c4 c5 d0 d1 d2 d3 d4 d5 hlt hlt2
        obtain ⟨c0, c1, c2, q3, q4, c5⟩ := HE10.out.cells
        have c3 : w10.cell? ⟨g1, 3, none⟩ = some (.string (strN J)) := q3
        have c4 : w10.cell? ⟨g1, 4, none⟩ = some (.string ⟨#[]⟩) := q4
        clear q3 q4
        have d0 : w10.cell? ⟨g2, 0, none⟩ = some (.string ⟨#[]⟩) := (EntAt.cells HX10.out).1
        have d1 : w10.cell? ⟨g2, 1, none⟩ = some (.string ⟨#[]⟩) := (EntAt.cells HX10.out).2.1
        have d2 : w10.cell? ⟨g2, 2, none⟩ = some (.string ⟨#[]⟩) := (EntAt.cells HX10.out).2.2.1
        have d3 : w10.cell? ⟨g2, 3, none⟩ = some (.string ⟨#[]⟩) := (EntAt.cells HX10.out).2.2.2.1
        have d4 : w10.cell? ⟨g2, 4, none⟩ = some (.string ⟨#[]⟩) := (EntAt.cells HX10.out).2.2.2.2.1
        have d5 : w10.cell? ⟨g2, 5, none⟩ = some (.int .i64 0) := (EntAt.cells HX10.out).2.2.2.2.2
        have hlt := HE10.out.lt
        have hlt2 := HX10.out.lt
        clear hsb htb hsl htl hk hj ha hsz htz hFp hFb hFl hJp hJb hJl hJn hwa hai hLp hfit hgb hgl hub hul hNb hNl
        go_wp2
        go_ret
        exact ⟨rfl, HB10.out⟩
      · rw [show decide (g = []) = true by simp [hg]] at eg
        clear hg
        have hn' := hn.symm
        clear hn
        subst hn'
        have HCl2 : Hid (∀ w, MaxLen w → Calls Tryd.prog 6 #[.agg #[.string (strN F), .string (strN s), .string (strN t), .string (strN J), .string ⟨#[]⟩, .int .i64 (at_ : Int)]] w fun r w' => r = .returned (.tuple #[.agg #[.string ⟨#[]⟩, .string ⟨#[]⟩, .string ⟨#[]⟩, .string ⟨#[]⟩, .string ⟨#[]⟩, .int .i64 0], .int .i64 23]) ∧ Below w.heap.size w w') := HCl.out
        clear HCl
        go_enter Tryd.func3, Tryd.ntmps3
        go_wp2_with fail
        refine Calls.mono HK.out ?_
        rintro r w1 ⟨rfl, hb⟩
        have HB1 : Hid _ := hb
        clear hb
        go_wp2_with fail
        refine Calls.mono (HAk.out _) ?_
        rintro r w2 ⟨rfl, hb⟩
        have HB2 : Hid _ := HB1.out.trans (hb.mono HB1.out.size)
        clear hb HB1
        have HE3 : Hid (EntAt (w2.alloc (.cells #[.string (strN F), .string (strN s), .string (strN t), .string ⟨#[]⟩, .string ⟨#[]⟩, .int .i64 (at_ : Int)] 26)) w2.heap.size ⟨F, s, t, [], [], (at_ : Int)⟩) := EntAt.new w2 ⟨F, s, t, [], [], (at_ : Int)⟩
        have HB3 : Hid (Below W.heap.size W (w2.alloc (.cells #[.string (strN F), .string (strN s), .string (strN t), .string ⟨#[]⟩, .string ⟨#[]⟩, .int .i64 (at_ : Int)] 26))) := HB2.out.alloc HB2.out.size _
        have HG3 : Hid (W.heap.size ≤ w2.heap.size) := HB2.out.size
        go_wp2_with fail
        generalize (w2.alloc (.cells #[.string (strN F), .string (strN s), .string (strN t), .string ⟨#[]⟩, .string ⟨#[]⟩, .int .i64 (at_ : Int)] 26)) = w3 at *
        generalize w2.heap.size = g1 at *
        refine Calls.mono (HAj.out _) ?_
        rintro r w4 ⟨rfl, hb⟩
        have HE4 : Hid _ := HE3.out.later hb HE3.out.lt
        have HB4 : Hid _ := HB3.out.trans (hb.mono HB3.out.size)
        clear hb HB3 HE3
        obtain ⟨c0, c1, c2, c3, q4, c5⟩ := HE4.out.cells
        have c4 : w4.cell? ⟨g1, 4, none⟩ = some (.string ⟨#[]⟩) := q4
        clear q4
        have hf3 := HE4.out.frozen 3
        have hlt4 := HE4.out.lt
        have HE5 : Hid (EntAt (w4.setCell ⟨g1, 3, none⟩ (.string (strN J))) g1 ⟨F, s, t, J, [], (at_ : Int)⟩) := ⟨Arr.set HE4.out.arr 3 _⟩
        have HB5 : Hid (Below W.heap.size W (w4.setCell ⟨g1, 3, none⟩ (.string (strN J)))) := HB4.out.setCell HG3.out _
        go_wp2_with fail
        generalize w4.setCell ⟨g1, 3, none⟩ (.string (strN J)) = w5 at *
        clear c0 c1 c2 c3 c4 c5 hf3 hlt4 HE4 HB4
        have HT5 : Hid (Env w5) := HT0.out.later HB5.out
        refine Calls.mono (HCl2.out _ HT5.out.max) ?_
        rintro r w6 ⟨rfl, hb⟩
        have HE6 : Hid _ := HE5.out.later hb HE5.out.lt
        have HB6 : Hid _ := HB5.out.trans (hb.mono HB5.out.size)
        clear hb HB5 HE5 HT5 HCl2
        have HX7 : Hid (EntAt (w6.alloc (.cells #[.string ⟨#[]⟩, .string ⟨#[]⟩, .string ⟨#[]⟩, .string ⟨#[]⟩, .string ⟨#[]⟩, .int .i64 0] 26)) w6.heap.size EntMath.zero) := EntAt.new w6 EntMath.zero
        have HE7 : Hid (EntAt (w6.alloc (.cells #[.string ⟨#[]⟩, .string ⟨#[]⟩, .string ⟨#[]⟩, .string ⟨#[]⟩, .string ⟨#[]⟩, .int .i64 0] 26)) g1 _) := HE6.out.alloc _
        have HB7 : Hid (Below W.heap.size W (w6.alloc (.cells #[.string ⟨#[]⟩, .string ⟨#[]⟩, .string ⟨#[]⟩, .string ⟨#[]⟩, .string ⟨#[]⟩, .int .i64 0] 26))) := HB6.out.alloc HB6.out.size _
        go_wp2_with fail
        generalize (w6.alloc (.cells #[.string ⟨#[]⟩, .string ⟨#[]⟩, .string ⟨#[]⟩, .string ⟨#[]⟩, .string ⟨#[]⟩, .int .i64 0] 26)) = w7 at *
        generalize w6.heap.size = g2 at *
        clear HE6 HB6
        refine Calls.mono (HTc.out _) ?_
        rintro r w8 ⟨rfl, hb⟩
        have HE8 : Hid _ := HE7.out.later hb HE7.out.lt
        have HX8 : Hid _ := HX7.out.later hb HX7.out.lt
        have HB8 : Hid _ := HB7.out.trans (hb.mono HB7.out.size)
        clear hb HE7 HX7 HB7
        go_wp2_with fail
        refine Calls.mono (HCu.out _) ?_
        rintro r w9 ⟨rfl, hb⟩
        have HE9 : Hid _ := HE8.out.later hb HE8.out.lt
        have HX9 : Hid _ := HX8.out.later hb HX8.out.lt
        have HB9 : Hid _ := HB8.out.trans (hb.mono HB8.out.size)
        clear hb HE8 HX8 HB8
        obtain ⟨c0, c1, c2, q3, q4, c5⟩ := HE9.out.cells
        have c3 : w9.cell? ⟨g1, 3, none⟩ = some (.string (strN J)) := q3
        have c4 : w9.cell? ⟨g1, 4, none⟩ = some (.string ⟨#[]⟩) := q4
        clear q3 q4
        have d0 : w9.cell? ⟨g2, 0, none⟩ = some (.string ⟨#[]⟩) := (EntAt.cells HX9.out).1
        have d1 : w9.cell? ⟨g2, 1, none⟩ = some (.string ⟨#[]⟩) := (EntAt.cells HX9.out).2.1
        have d2 : w9.cell? ⟨g2, 2, none⟩ = some (.string ⟨#[]⟩) := (EntAt.cells HX9.out).2.2.1
        have d3 : w9.cell? ⟨g2, 3, none⟩ = some (.string ⟨#[]⟩) := (EntAt.cells HX9.out).2.2.2.1
        have d4 : w9.cell? ⟨g2, 4, none⟩ = some (.string ⟨#[]⟩) := (EntAt.cells HX9.out).2.2.2.2.1
        have d5 : w9.cell? ⟨g2, 5, none⟩ = some (.int .i64 0) := (EntAt.cells HX9.out).2.2.2.2.2
        have hlt := HE9.out.lt
        have hlt2 := HX9.out.lt
        go_wp2_with fail
        refine Calls.mono (HRu.out _) ?_
        rintro r w10 ⟨rfl, hb⟩
        have HE10 : Hid _ := HE9.out.later hb HE9.out.lt
        have HX10 : Hid _ := HX9.out.later hb HX9.out.lt
        have HB10 : Hid _ := HB9.out.trans (hb.mono HB9.out.size)
        clear hb HE9 HX9 HB9 c0 c1 c2 c3 c4 c5 d0 d1 d2 d3 d4 d5 hlt hlt2
        obtain ⟨c0, c1, c2, q3, q4, c5⟩ := HE10.out.cells
        have c3 : w10.cell? ⟨g1, 3, none⟩ = some (.string (strN J)) := q3
        have c4 : w10.cell? ⟨g1, 4, none⟩ = some (.string ⟨#[]⟩) := q4
        clear q3 q4
        have d0 : w10.cell? ⟨g2, 0, none⟩ = some (.string ⟨#[]⟩) := (EntAt.cells HX10.out).1
        have d1 : w10.cell? ⟨g2, 1, none⟩ = some (.string ⟨#[]⟩) := (EntAt.cells HX10.out).2.1
        have d2 : w10.cell? ⟨g2, 2, none⟩ = some (.string ⟨#[]⟩) := (EntAt.cells HX10.out).2.2.1
        have d3 : w10.cell? ⟨g2, 3, none⟩ = some (.string ⟨#[]⟩) := (EntAt.cells HX10.out).2.2.2.1
        have d4 : w10.cell? ⟨g2, 4, none⟩ = some (.string ⟨#[]⟩) := (EntAt.cells HX10.out).2.2.2.2.1
        have d5 : w10.cell? ⟨g2, 5, none⟩ = some (.int .i64 0) := (EntAt.cells HX10.out).2.2.2.2.2
        have hlt := HE10.out.lt
        have hlt2 := HX10.out.lt
        clear hsb htb hsl htl hk hj ha hsz htz hFp hFb hFl hJp hJb hJl hJn hwa hai hLp hfit hgb hgl hub hul hNb hNl
        go_wp2
        go_ret
        exact ⟨rfl, HB10.out⟩
    · rw [if_neg hn200] at hq
      rw [hq] at HCl
      have hn2 : (n : Int) ≤ 200 := by omega
      clear hq hn200
      rcases hpath with ⟨hg, hn⟩ | ⟨hg, hn⟩
      · rw [show decide (g = []) = false by simp [hg]] at eg
        clear hg eN
        have hn' := hn.symm
        clear hn
        subst hn'
        have HCl2 : Hid (∀ w, MaxLen w → Calls Tryd.prog 6 #[.agg #[.string (strN F), .string (strN s), .string (strN t), .string (strN J), .string ⟨#[]⟩, .int .i64 (at_ : Int)]] w fun r w' => r = .returned (.tuple #[.agg #[.string (strN F), .string (strN g), .string (strN u), .string (strN J), .string ⟨#[]⟩, .int .i64 (at_ : Int)], .int .i64 0]) ∧ Below w.heap.size w w') := HCl.out
        clear HCl
        go_enter Tryd.func3, Tryd.ntmps3
        go_wp2_with fail
        refine Calls.mono HK.out ?_
        rintro r w1 ⟨rfl, hb⟩
        have HB1 : Hid _ := hb
        clear hb
        go_wp2_with fail
        refine Calls.mono (HAk.out _) ?_
        rintro r w2 ⟨rfl, hb⟩
        have HB2 : Hid _ := HB1.out.trans (hb.mono HB1.out.size)
        clear hb HB1
        have HE3 : Hid (EntAt (w2.alloc (.cells #[.string (strN F), .string (strN s), .string (strN t), .string ⟨#[]⟩, .string ⟨#[]⟩, .int .i64 (at_ : Int)] 26)) w2.heap.size ⟨F, s, t, [], [], (at_ : Int)⟩) := EntAt.new w2 ⟨F, s, t, [], [], (at_ : Int)⟩
        have HB3 : Hid (Below W.heap.size W (w2.alloc (.cells #[.string (strN F), .string (strN s), .string (strN t), .string ⟨#[]⟩, .string ⟨#[]⟩, .int .i64 (at_ : Int)] 26))) := HB2.out.alloc HB2.out.size _
        have HG3 : Hid (W.heap.size ≤ w2.heap.size) := HB2.out.size
        go_wp2_with fail
        generalize (w2.alloc (.cells #[.string (strN F), .string (strN s), .string (strN t), .string ⟨#[]⟩, .string ⟨#[]⟩, .int .i64 (at_ : Int)] 26)) = w3 at *
        generalize w2.heap.size = g1 at *
        refine Calls.mono (HAj.out _) ?_
        rintro r w4 ⟨rfl, hb⟩
        have HE4 : Hid _ := HE3.out.later hb HE3.out.lt
        have HB4 : Hid _ := HB3.out.trans (hb.mono HB3.out.size)
        clear hb HB3 HE3
        obtain ⟨c0, c1, c2, c3, q4, c5⟩ := HE4.out.cells
        have c4 : w4.cell? ⟨g1, 4, none⟩ = some (.string ⟨#[]⟩) := q4
        clear q4
        have hf3 := HE4.out.frozen 3
        have hlt4 := HE4.out.lt
        have HE5 : Hid (EntAt (w4.setCell ⟨g1, 3, none⟩ (.string (strN J))) g1 ⟨F, s, t, J, [], (at_ : Int)⟩) := ⟨Arr.set HE4.out.arr 3 _⟩
        have HB5 : Hid (Below W.heap.size W (w4.setCell ⟨g1, 3, none⟩ (.string (strN J)))) := HB4.out.setCell HG3.out _
        go_wp2_with fail
        generalize w4.setCell ⟨g1, 3, none⟩ (.string (strN J)) = w5 at *
        clear c0 c1 c2 c3 c4 c5 hf3 hlt4 HE4 HB4
        have HT5 : Hid (Env w5) := HT0.out.later HB5.out
        refine Calls.mono (HCl2.out _ HT5.out.max) ?_
        rintro r w6 ⟨rfl, hb⟩
        have HE6 : Hid _ := HE5.out.later hb HE5.out.lt
        have HB6 : Hid _ := HB5.out.trans (hb.mono HB5.out.size)
        clear hb HB5 HE5 HT5 HCl2
        have HX7 : Hid (EntAt (w6.alloc (.cells #[.string (strN F), .string (strN g), .string (strN u), .string (strN J), .string ⟨#[]⟩, .int .i64 (at_ : Int)] 26)) w6.heap.size ⟨F, g, u, J, [], (at_ : Int)⟩) := EntAt.new w6 ⟨F, g, u, J, [], (at_ : Int)⟩
        have HE7 : Hid (EntAt (w6.alloc (.cells #[.string (strN F), .string (strN g), .string (strN u), .string (strN J), .string ⟨#[]⟩, .int .i64 (at_ : Int)] 26)) g1 _) := HE6.out.alloc _
        have HB7 : Hid (Below W.heap.size W (w6.alloc (.cells #[.string (strN F), .string (strN g), .string (strN u), .string (strN J), .string ⟨#[]⟩, .int .i64 (at_ : Int)] 26))) := HB6.out.alloc HB6.out.size _
        go_wp2_with fail
        generalize (w6.alloc (.cells #[.string (strN F), .string (strN g), .string (strN u), .string (strN J), .string ⟨#[]⟩, .int .i64 (at_ : Int)] 26)) = w7 at *
        generalize w6.heap.size = g2 at *
        clear HE6 HB6
        refine Calls.mono (HTc.out _) ?_
        rintro r w8 ⟨rfl, hb⟩
        have HE8 : Hid _ := HE7.out.later hb HE7.out.lt
        have HX8 : Hid _ := HX7.out.later hb HX7.out.lt
        have HB8 : Hid _ := HB7.out.trans (hb.mono HB7.out.size)
        clear hb HE7 HX7 HB7
        go_wp2_with fail
        refine Calls.mono (HCu.out _) ?_
        rintro r w9 ⟨rfl, hb⟩
        have HE9 : Hid _ := HE8.out.later hb HE8.out.lt
        have HX9 : Hid _ := HX8.out.later hb HX8.out.lt
        have HB9 : Hid _ := HB8.out.trans (hb.mono HB8.out.size)
        clear hb HE8 HX8 HB8
        obtain ⟨c0, c1, c2, q3, q4, c5⟩ := HE9.out.cells
        have c3 : w9.cell? ⟨g1, 3, none⟩ = some (.string (strN J)) := q3
        have c4 : w9.cell? ⟨g1, 4, none⟩ = some (.string ⟨#[]⟩) := q4
        clear q3 q4
        have d0 : w9.cell? ⟨g2, 0, none⟩ = some (.string (strN F)) := (EntAt.cells HX9.out).1
        have d1 : w9.cell? ⟨g2, 1, none⟩ = some (.string (strN g)) := (EntAt.cells HX9.out).2.1
        have d2 : w9.cell? ⟨g2, 2, none⟩ = some (.string (strN u)) := (EntAt.cells HX9.out).2.2.1
        have d3 : w9.cell? ⟨g2, 3, none⟩ = some (.string (strN J)) := (EntAt.cells HX9.out).2.2.2.1
        have d4 : w9.cell? ⟨g2, 4, none⟩ = some (.string ⟨#[]⟩) := (EntAt.cells HX9.out).2.2.2.2.1
        have d5 : w9.cell? ⟨g2, 5, none⟩ = some (.int .i64 (at_ : Int)) := (EntAt.cells HX9.out).2.2.2.2.2
        have hlt := HE9.out.lt
        have hlt2 := HX9.out.lt
        go_wp2_with fail
        refine Calls.mono (HRu.out _) ?_
        rintro r w10 ⟨rfl, hb⟩
        have HE10 : Hid _ := HE9.out.later hb HE9.out.lt
        have HX10 : Hid _ := HX9.out.later hb HX9.out.lt
        have HB10 : Hid _ := HB9.out.trans (hb.mono HB9.out.size)
        clear hb HE9 HX9 HB9 c0 c1 c2 c3 c4 c5 d0 d1 d2 d3 d4 d5 hlt hlt2
        obtain ⟨c0, c1, c2, q3, q4, c5⟩ := HE10.out.cells
        have c3 : w10.cell? ⟨g1, 3, none⟩ = some (.string (strN J)) := q3
        have c4 : w10.cell? ⟨g1, 4, none⟩ = some (.string ⟨#[]⟩) := q4
        clear q3 q4
        have d0 : w10.cell? ⟨g2, 0, none⟩ = some (.string (strN F)) := (EntAt.cells HX10.out).1
        have d1 : w10.cell? ⟨g2, 1, none⟩ = some (.string (strN g)) := (EntAt.cells HX10.out).2.1
        have d2 : w10.cell? ⟨g2, 2, none⟩ = some (.string (strN u)) := (EntAt.cells HX10.out).2.2.1
        have d3 : w10.cell? ⟨g2, 3, none⟩ = some (.string (strN J)) := (EntAt.cells HX10.out).2.2.2.1
        have d4 : w10.cell? ⟨g2, 4, none⟩ = some (.string ⟨#[]⟩) := (EntAt.cells HX10.out).2.2.2.2.1
        have d5 : w10.cell? ⟨g2, 5, none⟩ = some (.int .i64 (at_ : Int)) := (EntAt.cells HX10.out).2.2.2.2.2
        have hlt := HE10.out.lt
        have hlt2 := HX10.out.lt
        clear hsb htb hsl htl hk hj ha hsz htz hFp hFb hFl hJp hJb hJl hJn hwa hai hLp hfit hgb hgl hub hul hNb hNl
        go_wp2
        go_ret
        exact ⟨rfl, HB10.out⟩
      · rw [show decide (g = []) = true by simp [hg]] at eg
        clear hg
        have hn' := hn.symm
        clear hn
        subst hn'
        have HCl2 : Hid (∀ w, MaxLen w → Calls Tryd.prog 6 #[.agg #[.string (strN F), .string (strN s), .string (strN t), .string (strN J), .string ⟨#[]⟩, .int .i64 (at_ : Int)]] w fun r w' => r = .returned (.tuple #[.agg #[.string (strN F), .string (strN J), .string (strN u), .string (strN J), .string ⟨#[]⟩, .int .i64 (at_ : Int)], .int .i64 0]) ∧ Below w.heap.size w w') := HCl.out
        clear HCl
        go_enter Tryd.func3, Tryd.ntmps3
        go_wp2_with fail
        refine Calls.mono HK.out ?_
        rintro r w1 ⟨rfl, hb⟩
        have HB1 : Hid _ := hb
        clear hb
        go_wp2_with fail
        refine Calls.mono (HAk.out _) ?_
        rintro r w2 ⟨rfl, hb⟩
        have HB2 : Hid _ := HB1.out.trans (hb.mono HB1.out.size)
        clear hb HB1
        have HE3 : Hid (EntAt (w2.alloc (.cells #[.string (strN F), .string (strN s), .string (strN t), .string ⟨#[]⟩, .string ⟨#[]⟩, .int .i64 (at_ : Int)] 26)) w2.heap.size ⟨F, s, t, [], [], (at_ : Int)⟩) := EntAt.new w2 ⟨F, s, t, [], [], (at_ : Int)⟩
        have HB3 : Hid (Below W.heap.size W (w2.alloc (.cells #[.string (strN F), .string (strN s), .string (strN t), .string ⟨#[]⟩, .string ⟨#[]⟩, .int .i64 (at_ : Int)] 26))) := HB2.out.alloc HB2.out.size _
        have HG3 : Hid (W.heap.size ≤ w2.heap.size) := HB2.out.size
        go_wp2_with fail
        generalize (w2.alloc (.cells #[.string (strN F), .string (strN s), .string (strN t), .string ⟨#[]⟩, .string ⟨#[]⟩, .int .i64 (at_ : Int)] 26)) = w3 at *
        generalize w2.heap.size = g1 at *
        refine Calls.mono (HAj.out _) ?_
        rintro r w4 ⟨rfl, hb⟩
        have HE4 : Hid _ := HE3.out.later hb HE3.out.lt
        have HB4 : Hid _ := HB3.out.trans (hb.mono HB3.out.size)
        clear hb HB3 HE3
        obtain ⟨c0, c1, c2, c3, q4, c5⟩ := HE4.out.cells
        have c4 : w4.cell? ⟨g1, 4, none⟩ = some (.string ⟨#[]⟩) := q4
        clear q4
        have hf3 := HE4.out.frozen 3
        have hlt4 := HE4.out.lt
        have HE5 : Hid (EntAt (w4.setCell ⟨g1, 3, none⟩ (.string (strN J))) g1 ⟨F, s, t, J, [], (at_ : Int)⟩) := ⟨Arr.set HE4.out.arr 3 _⟩
        have HB5 : Hid (Below W.heap.size W (w4.setCell ⟨g1, 3, none⟩ (.string (strN J)))) := HB4.out.setCell HG3.out _
        go_wp2_with fail
        generalize w4.setCell ⟨g1, 3, none⟩ (.string (strN J)) = w5 at *
        clear c0 c1 c2 c3 c4 c5 hf3 hlt4 HE4 HB4
        have HT5 : Hid (Env w5) := HT0.out.later HB5.out
        refine Calls.mono (HCl2.out _ HT5.out.max) ?_
        rintro r w6 ⟨rfl, hb⟩
        have HE6 : Hid _ := HE5.out.later hb HE5.out.lt
        have HB6 : Hid _ := HB5.out.trans (hb.mono HB5.out.size)
        clear hb HB5 HE5 HT5 HCl2
        have HX7 : Hid (EntAt (w6.alloc (.cells #[.string (strN F), .string (strN J), .string (strN u), .string (strN J), .string ⟨#[]⟩, .int .i64 (at_ : Int)] 26)) w6.heap.size ⟨F, J, u, J, [], (at_ : Int)⟩) := EntAt.new w6 ⟨F, J, u, J, [], (at_ : Int)⟩
        have HE7 : Hid (EntAt (w6.alloc (.cells #[.string (strN F), .string (strN J), .string (strN u), .string (strN J), .string ⟨#[]⟩, .int .i64 (at_ : Int)] 26)) g1 _) := HE6.out.alloc _
        have HB7 : Hid (Below W.heap.size W (w6.alloc (.cells #[.string (strN F), .string (strN J), .string (strN u), .string (strN J), .string ⟨#[]⟩, .int .i64 (at_ : Int)] 26))) := HB6.out.alloc HB6.out.size _
        go_wp2_with fail
        generalize (w6.alloc (.cells #[.string (strN F), .string (strN J), .string (strN u), .string (strN J), .string ⟨#[]⟩, .int .i64 (at_ : Int)] 26)) = w7 at *
        generalize w6.heap.size = g2 at *
        clear HE6 HB6
        refine Calls.mono (HTc.out _) ?_
        rintro r w8 ⟨rfl, hb⟩
        have HE8 : Hid _ := HE7.out.later hb HE7.out.lt
        have HX8 : Hid _ := HX7.out.later hb HX7.out.lt
        have HB8 : Hid _ := HB7.out.trans (hb.mono HB7.out.size)
        clear hb HE7 HX7 HB7
        go_wp2_with fail
        refine Calls.mono (HCu.out _) ?_
        rintro r w9 ⟨rfl, hb⟩
        have HE9 : Hid _ := HE8.out.later hb HE8.out.lt
        have HX9 : Hid _ := HX8.out.later hb HX8.out.lt
        have HB9 : Hid _ := HB8.out.trans (hb.mono HB8.out.size)
        clear hb HE8 HX8 HB8
        obtain ⟨c0, c1, c2, q3, q4, c5⟩ := HE9.out.cells
        have c3 : w9.cell? ⟨g1, 3, none⟩ = some (.string (strN J)) := q3
        have c4 : w9.cell? ⟨g1, 4, none⟩ = some (.string ⟨#[]⟩) := q4
        clear q3 q4
        have d0 : w9.cell? ⟨g2, 0, none⟩ = some (.string (strN F)) := (EntAt.cells HX9.out).1
        have d1 : w9.cell? ⟨g2, 1, none⟩ = some (.string (strN J)) := (EntAt.cells HX9.out).2.1
        have d2 : w9.cell? ⟨g2, 2, none⟩ = some (.string (strN u)) := (EntAt.cells HX9.out).2.2.1
        have d3 : w9.cell? ⟨g2, 3, none⟩ = some (.string (strN J)) := (EntAt.cells HX9.out).2.2.2.1
        have d4 : w9.cell? ⟨g2, 4, none⟩ = some (.string ⟨#[]⟩) := (EntAt.cells HX9.out).2.2.2.2.1
        have d5 : w9.cell? ⟨g2, 5, none⟩ = some (.int .i64 (at_ : Int)) := (EntAt.cells HX9.out).2.2.2.2.2
        have hlt := HE9.out.lt
        have hlt2 := HX9.out.lt
        go_wp2_with fail
        refine Calls.mono (HRu.out _) ?_
        rintro r w10 ⟨rfl, hb⟩
        have HE10 : Hid _ := HE9.out.later hb HE9.out.lt
        have HX10 : Hid _ := HX9.out.later hb HX9.out.lt
        have HB10 : Hid _ := HB9.out.trans (hb.mono HB9.out.size)
        clear hb HE9 HX9 HB9 c0 c1 c2 c3 c4 c5 d0 d1 d2 d3 d4 d5 hlt hlt2
        obtain ⟨c0, c1, c2, q3, q4, c5⟩ := HE10.out.cells
        have c3 : w10.cell? ⟨g1, 3, none⟩ = some (.string (strN J)) := q3
        have c4 : w10.cell? ⟨g1, 4, none⟩ = some (.string ⟨#[]⟩) := q4
        clear q3 q4
        have d0 : w10.cell? ⟨g2, 0, none⟩ = some (.string (strN F)) := (EntAt.cells HX10.out).1
        have d1 : w10.cell? ⟨g2, 1, none⟩ = some (.string (strN J)) := (EntAt.cells HX10.out).2.1
        have d2 : w10.cell? ⟨g2, 2, none⟩ = some (.string (strN u)) := (EntAt.cells HX10.out).2.2.1
        have d3 : w10.cell? ⟨g2, 3, none⟩ = some (.string (strN J)) := (EntAt.cells HX10.out).2.2.2.1
        have d4 : w10.cell? ⟨g2, 4, none⟩ = some (.string ⟨#[]⟩) := (EntAt.cells HX10.out).2.2.2.2.1
        have d5 : w10.cell? ⟨g2, 5, none⟩ = some (.int .i64 (at_ : Int)) := (EntAt.cells HX10.out).2.2.2.2.2
        have hlt := HE10.out.lt
        have hlt2 := HX10.out.lt
        clear hsb htb hsl htl hk hj ha hsz htz hFp hFb hFl hJp hJb hJl hJn hwa hai hLp hfit hgb hgl hub hul hNb hNl
        go_wp2
        go_ret
        exact ⟨rfl, HB10.out⟩

theorem entryNames_walk (s0 s1 : ByteArray) (n2 n3 : Int) (b4 : Bool) (n5 : Int) (W : World) (ht : Env W) (hs0 : s0.size ≤ 140737488355328) (hs1 : s1.size ≤ 140737488355328) (w2 : (Lit.int .u8 n2).wf = true) (w3 : (Lit.int .u8 n3).wf = true) (w5 : (Lit.int .u16 n5).wf = true) :
    Calls Tryd.prog 3 #[.string s0, .string s1, .int .u8 n2, .int .u8 n3, .bool b4, .int .u16 n5] W fun r W' => r = .returned (.bool true) ∧ Below W.heap.size W W' := by
  obtain ⟨s, hsb, rfl⟩ := any_str s0
  obtain ⟨t, htb, rfl⟩ := any_str s1
  have hb2 := bounds_u8 w2
  have hb3 := bounds_u8 w3
  have hb5 := bounds_u16 w5
  obtain ⟨k, rfl⟩ : ∃ n : Nat, n2 = (n : Int) := ⟨n2.toNat, by omega⟩
  obtain ⟨j, rfl⟩ : ∃ n : Nat, n3 = (n : Int) := ⟨n3.toNat, by omega⟩
  obtain ⟨a, rfl⟩ : ∃ n : Nat, n5 = (n : Int) := ⟨n5.toNat, by omega⟩
  by_cases hbig : s.length ≤ 900 ∧ t.length ≤ 600
  · cases b4 with
    | false => exact entryNames_F s t k j a W ht hsb htb hbig.1 hbig.2 (by omega) (by omega) (by omega)
    | true => exact entryNames_T s t k j a W ht hsb htb hbig.1 hbig.2 (by omega) (by omega) (by omega)
  · have HK : Hid _ := known_any W ht
    have hsz := strN_size s
    have htz := strN_size t
    clear ht hb2 hb3 hb5 w2 w3 w5 hs0 hs1
    by_cases h9 : 900 < s.length
    · have h9i : (900 : Int) < (s.length : Int) := by omega
      go_enter Tryd.func3, Tryd.ntmps3
      go_wp2_with fail
      refine Calls.mono HK.out ?_
      rintro r w1 ⟨rfl, hb⟩
      go_wp2
      go_ret
      exact ⟨rfl, hb⟩
    · have h9i : (s.length : Int) ≤ 900 := by omega
      have h6i : (600 : Int) < (t.length : Int) := by omega
      go_enter Tryd.func3, Tryd.ntmps3
      go_wp2_with fail
      refine Calls.mono HK.out ?_
      rintro r w1 ⟨rfl, hb⟩
      go_wp2
      go_ret
      exact ⟨rfl, hb⟩
end Go.Proofs.YtdikjodgendgdaaDoor

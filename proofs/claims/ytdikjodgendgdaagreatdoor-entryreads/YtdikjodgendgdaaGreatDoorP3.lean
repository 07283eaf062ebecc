/-
  L6Known, L6Reads, L6Tab.
-/
import Derived.Test.YtdikjodgendgdaaGreatDoorQ28
import Derived.Test.YtdikjodgendgdaaGreatDoorQ34
import Derived.Test.YtdikjodgendgdaaGreatDoorQ35
import Derived.Test.YtdikjodgendgdaaGreatDoorP2
import Derived.Test.YtdikjodgendgdaaGreatDoorQ50
import Derived.Test.YtdikjodgendgdaaGreatDoorQ26
import Derived.Test.YtdikjodgendgdaaGreatDoorQ52
import Derived.Test.YtdikjodgendgdaaGreatDoorQ07
import Derived.Test.YtdikjodgendgdaaGreatDoorCards
import Derived.Test.YtdikjodgendgdaaGreatDoorTie
import Derived.Lib.LaidTab
import Derived.Lib.LaidU8
import Derived.LaidSub
import Derived.Shelf.Vars
import Derived.MakeChecks
namespace Go.Proofs.YtdikjodgendgdaaGreatDoor
open Go.RowKit NumMath
open EntMath (E textB iN nI bytes0)
set_option maxRecDepth 100000
set_option linter.unusedVariables false
set_option linter.unusedSimpArgs false
attribute [-simp] Tryz.isAgg33 Tryz.zeroValue33

def K0 : E := ⟨[72, 84, 84, 80, 58, 47, 47, 97, 46, 98], [], [32, 116, 32], [104, 116, 116, 112, 58, 47, 47, 97, 46, 98, 47, 112], [], 0⟩
def K1 : E := ⟨[104, 116, 116, 112, 58, 47, 47, 97, 46, 98, 47], [104, 116, 116, 112, 58, 47, 47, 97, 46, 98, 47, 112], [116], [104, 116, 116, 112, 58, 47, 47, 97, 46, 98, 47, 112], [], 0⟩
def K2 : E := ⟨[104, 116, 116, 112, 58, 47, 47, 97, 46, 98], [], [], [], [], 0⟩
theorem clean_K0 : EntMath.clean K0 = (K1, 0) := by kernel_rfl
theorem clean_K2 : EntMath.clean K2 = (EntMath.zero, 26) := by kernel_rfl
theorem right_K1 : EntMath.right K1 = true := EntMath.clean_right clean_K0
theorem read_K1 : EntMath.read (EntMath.bytes K1) = (K1, 0) := by
  unfold EntMath.bytes; rw [if_pos right_K1]; exact EntMath.read_bytes right_K1
theorem fit_K0 : EFit K0 := ⟨by decide, by decide, by decide, by decide, by decide, by decide, by decide, by decide, by decide, by decide, by decide, by decide⟩
theorem fit_K1 : EFit K1 := EFit.of (EntMath.right_fit right_K1)
theorem fit_K2 : EFit K2 := ⟨by decide, by decide, by decide, by decide, by decide, by decide, by decide, by decide, by decide, by decide, by decide, by decide⟩
theorem id_K1 : (idN K1)[0]?.getD 0 ≠ 0 := by
  have h : (ShaMath.digest (nI (bytes0 K1)))[0]?.getD 0 ≠ 0 := by decide +kernel
  unfold idN; rw [if_pos right_K1]; exact h
theorem eq_head (l m : List Nat) (hl : l.length = 32) (hm : m.length = 32) (h : l[0]?.getD 0 ≠ m[0]?.getD 0) (w : World) : (Op.equalIn 10000 33 (.agg (u8v l).toArray) (.agg (u8v m).toArray)).run Tryz.prog w = .ok false w := by
  obtain ⟨i, hi⟩ : ∃ i, Tryz.prog.info? 5 = some i := by
    cases hq : Tryz.prog.info? 5 with
    | none => have := size5; simp [hq] at this
    | some x => exact ⟨x, rfl⟩
  have hh := run_equalIn_array (P := Tryz.prog) w 9999 (t := 33) (u8v l).toArray (u8v m).toArray Tryz.underlying33 hi
  rw [hh, cells5]
  show (Op.eqItems 9999 5 1 (u8v l).toArray (u8v m).toArray (0 :: (List.range 31).map (· + 1))).run Tryz.prog w = _
  have hp1 := run_part8 (w := w) (u8v l) 0 (.int .u8 ((l[0]?.getD 0 : Nat) : Int)) (by simp [u8v, hl])
  have hp2 := run_part8 (w := w) (u8v m) 0 (.int .u8 ((m[0]?.getD 0 : Nat) : Int)) (by simp [u8v, hm])
  have he := run_equalIn_int (P := Tryz.prog) w 9998 5 .u8 .u8 ((l[0]?.getD 0 : Nat) : Int) ((m[0]?.getD 0 : Nat) : Int) Tryz.underlying5
  have hne : (((l[0]?.getD 0 : Nat) : Int) == ((m[0]?.getD 0 : Nat) : Int)) = false := by simp; omega
  rw [hne] at he
  simp only [Op.eqItems, Sem.run_bind, hp1, hp2, Result.andThen_ok, he]
  rfl

set_option maxHeartbeats 16000000 in
theorem known_any (w : World) (ht : Env w) :
    Calls Tryz.prog 8 #[] w fun r w' => r = .returned (.bool true) ∧ Below w.heap.size w w' := by
  have HT0 : Hid _ := ht
  have HC0 : Hid (∀ w, MaxLen w → Calls Tryz.prog 12 #[.agg #[.string ⟨#[72, 84, 84, 80, 58, 47, 47, 97, 46, 98]⟩, .string ⟨#[]⟩, .string ⟨#[32, 116, 32]⟩, .string ⟨#[104, 116, 116, 112, 58, 47, 47, 97, 46, 98, 47, 112]⟩, .string ⟨#[]⟩, .int .i64 0]] w fun r w' => r = .returned (.tuple #[.agg #[.string ⟨#[104, 116, 116, 112, 58, 47, 47, 97, 46, 98, 47]⟩, .string ⟨#[104, 116, 116, 112, 58, 47, 47, 97, 46, 98, 47, 112]⟩, .string ⟨#[116]⟩, .string ⟨#[104, 116, 116, 112, 58, 47, 47, 97, 46, 98, 47, 112]⟩, .string ⟨#[]⟩, .int .i64 0], .int .i64 0]) ∧ Below w.heap.size w w') := by
    intro w ht
    have := entClean_any K0 w ht fit_K0
    rw [clean_K0] at this
    exact this
  have HC2 : Hid (∀ w, MaxLen w → Calls Tryz.prog 12 #[.agg #[.string ⟨#[104, 116, 116, 112, 58, 47, 47, 97, 46, 98]⟩, .string ⟨#[]⟩, .string ⟨#[]⟩, .string ⟨#[]⟩, .string ⟨#[]⟩, .int .i64 0]] w fun r w' => r = .returned (.tuple #[.agg #[.string ⟨#[]⟩, .string ⟨#[]⟩, .string ⟨#[]⟩, .string ⟨#[]⟩, .string ⟨#[]⟩, .int .i64 0], .int .i64 26]) ∧ Below w.heap.size w w') := by
    intro w ht
    have := entClean_any K2 w ht fit_K2
    rw [clean_K2] at this
    exact this
  have HB1 : Hid (∀ w, MaxLen w → Calls Tryz.prog 19 #[.agg #[.string ⟨#[104, 116, 116, 112, 58, 47, 47, 97, 46, 98, 47]⟩, .string ⟨#[104, 116, 116, 112, 58, 47, 47, 97, 46, 98, 47, 112]⟩, .string ⟨#[116]⟩, .string ⟨#[104, 116, 116, 112, 58, 47, 47, 97, 46, 98, 47, 112]⟩, .string ⟨#[]⟩, .int .i64 0]] w fun r w' => ∃ v, r = .returned v ∧ Bytes w' v (EntMath.bytes K1) ∧ Below w.heap.size w w') := fun w ht => entBytes_any K1 w ht fit_K1
  have HR1 : Hid (∀ w, MaxLen w → Calls Tryz.prog 14 #[.agg #[.string ⟨#[104, 116, 116, 112, 58, 47, 47, 97, 46, 98, 47]⟩, .string ⟨#[104, 116, 116, 112, 58, 47, 47, 97, 46, 98, 47, 112]⟩, .string ⟨#[116]⟩, .string ⟨#[104, 116, 116, 112, 58, 47, 47, 97, 46, 98, 47, 112]⟩, .string ⟨#[]⟩, .int .i64 0]] w fun r w' => r = .returned (.bool true) ∧ Below w.heap.size w w') := by
    intro w ht
    have := entRight_any K1 w ht fit_K1
    rw [right_K1] at this
    exact this
  have HI1 : Hid (∀ w, Env w → Calls Tryz.prog 21 #[.agg #[.string ⟨#[104, 116, 116, 112, 58, 47, 47, 97, 46, 98, 47]⟩, .string ⟨#[104, 116, 116, 112, 58, 47, 47, 97, 46, 98, 47, 112]⟩, .string ⟨#[116]⟩, .string ⟨#[104, 116, 116, 112, 58, 47, 47, 97, 46, 98, 47, 112]⟩, .string ⟨#[]⟩, .int .i64 0]] w fun r w' => r = .returned (.agg (u8v (idN K1)).toArray) ∧ Below w.heap.size w w') := fun w ht => entId_any K1 w ht fit_K1
  have HRd : Hid (∀ (a : Option Addr) (c : Nat) (w : World), MaxLen w → Rest w a (EntMath.bytes K1) c → Calls Tryz.prog 23 #[.slice a (EntMath.bytes K1).length c] w fun r w' => r = .returned (.tuple #[.agg #[.string ⟨#[104, 116, 116, 112, 58, 47, 47, 97, 46, 98, 47]⟩, .string ⟨#[104, 116, 116, 112, 58, 47, 47, 97, 46, 98, 47, 112]⟩, .string ⟨#[116]⟩, .string ⟨#[104, 116, 116, 112, 58, 47, 47, 97, 46, 98, 47, 112]⟩, .string ⟨#[]⟩, .int .i64 0], .int .i64 0]) ∧ Below w.heap.size w w') := by
    intro a c w ht hR
    have := entRead_any a (EntMath.bytes K1) c w ht hR (EntMath.bytes_byte K1) (by
      intro s hs
      have h1 := (EntMath.texts_one 5 (EntMath.bytes K1) (EntMath.bytes_byte K1) (by decide +kernel)).2.2.2.2 s hs
      have := EntMath.bytes_len K1
      omega)
    rw [read_K1] at this
    exact this
  obtain ⟨z26, i26⟩ := zero_of_info zero26
  have hne := eq_head (idN K1) (List.replicate 32 0) (idN_len K1) rfl id_K1
  obtain ⟨Z, hZ⟩ : ∃ Z, Z = u8v (List.replicate 32 0) := ⟨_, rfl⟩
  rw [← hZ] at z26 hne
  clear ht hZ i26
  go_enter Tryz.func8, Tryz.ntmps8
  go_wp2_with fail
  refine Calls.mono (HC0.out _ HT0.out.max) ?_
  rintro r w1 ⟨rfl, hb⟩
  have HB : Hid _ := hb
  clear hb
  go_wp2_with fail
  have HA1 : Hid (EntAt (w1.alloc (.cells #[.string ⟨#[104, 116, 116, 112, 58, 47, 47, 97, 46, 98, 47]⟩, .string ⟨#[104, 116, 116, 112, 58, 47, 47, 97, 46, 98, 47, 112]⟩, .string ⟨#[116]⟩, .string ⟨#[104, 116, 116, 112, 58, 47, 47, 97, 46, 98, 47, 112]⟩, .string ⟨#[]⟩, .int .i64 0] 23)) w1.heap.size K1) := EntAt.new w1 K1
  have HB1w : Hid (Below w.heap.size w (w1.alloc (.cells #[.string ⟨#[104, 116, 116, 112, 58, 47, 47, 97, 46, 98, 47]⟩, .string ⟨#[104, 116, 116, 112, 58, 47, 47, 97, 46, 98, 47, 112]⟩, .string ⟨#[116]⟩, .string ⟨#[104, 116, 116, 112, 58, 47, 47, 97, 46, 98, 47, 112]⟩, .string ⟨#[]⟩, .int .i64 0] 23))) := HB.out.alloc HB.out.size _
  generalize (w1.alloc (.cells #[.string ⟨#[104, 116, 116, 112, 58, 47, 47, 97, 46, 98, 47]⟩, .string ⟨#[104, 116, 116, 112, 58, 47, 47, 97, 46, 98, 47, 112]⟩, .string ⟨#[116]⟩, .string ⟨#[104, 116, 116, 112, 58, 47, 47, 97, 46, 98, 47, 112]⟩, .string ⟨#[]⟩, .int .i64 0] 23)) = W1 at *
  generalize w1.heap.size = g1 at *
  have HT1 : Hid (Env W1) := HT0.out.later HB1w.out
  refine Calls.mono (HB1.out _ HT1.out.max) ?_
  rintro r w2 ⟨v, rfl, hby, hb⟩
  obtain ⟨a, c, rfl, hrow, hbb, hc, hm, hn⟩ := hby
  have HA2 : Hid _ := HA1.out.later hb HA1.out.lt
  have HB2 : Hid _ := HB1w.out.trans (hb.mono HB1w.out.size)
  have HT2 : Hid (Env w2) := HT1.out.later hb
  have HRe : Hid (Rest w2 a (EntMath.bytes K1) c) := ⟨hrow, hc, hm, hn⟩
  have HRd2 : Hid _ := HRd.out a c w2 HT2.out.max HRe.out
  clear hb hrow hbb hc hm hn HA1 HB1w HT1 HRd HRe HB
  generalize (EntMath.bytes K1).length = L at *
  go_wp2_with fail
  refine Calls.mono HRd2.out ?_
  rintro r w3 ⟨rfl, hb⟩
  have HA3 : Hid _ := HA2.out.later hb HA2.out.lt
  have HB3 : Hid _ := HB2.out.trans (hb.mono HB2.out.size)
  have HT3 : Hid (Env w3) := HT2.out.later hb
  clear hb HA2 HB2 HT2 HRd2
  go_wp2_with fail
  have HX4 : Hid (EntAt (w3.alloc (.cells #[.string ⟨#[104, 116, 116, 112, 58, 47, 47, 97, 46, 98, 47]⟩, .string ⟨#[104, 116, 116, 112, 58, 47, 47, 97, 46, 98, 47, 112]⟩, .string ⟨#[116]⟩, .string ⟨#[104, 116, 116, 112, 58, 47, 47, 97, 46, 98, 47, 112]⟩, .string ⟨#[]⟩, .int .i64 0] 23)) w3.heap.size K1) := EntAt.new w3 K1
  have HA4 : Hid (EntAt (w3.alloc (.cells #[.string ⟨#[104, 116, 116, 112, 58, 47, 47, 97, 46, 98, 47]⟩, .string ⟨#[104, 116, 116, 112, 58, 47, 47, 97, 46, 98, 47, 112]⟩, .string ⟨#[116]⟩, .string ⟨#[104, 116, 116, 112, 58, 47, 47, 97, 46, 98, 47, 112]⟩, .string ⟨#[]⟩, .int .i64 0] 23)) g1 K1) := HA3.out.alloc _
  have HB4 : Hid (Below w.heap.size w (w3.alloc (.cells #[.string ⟨#[104, 116, 116, 112, 58, 47, 47, 97, 46, 98, 47]⟩, .string ⟨#[104, 116, 116, 112, 58, 47, 47, 97, 46, 98, 47, 112]⟩, .string ⟨#[116]⟩, .string ⟨#[104, 116, 116, 112, 58, 47, 47, 97, 46, 98, 47, 112]⟩, .string ⟨#[]⟩, .int .i64 0] 23))) := HB3.out.alloc HB3.out.size _
  generalize (w3.alloc (.cells #[.string ⟨#[104, 116, 116, 112, 58, 47, 47, 97, 46, 98, 47]⟩, .string ⟨#[104, 116, 116, 112, 58, 47, 47, 97, 46, 98, 47, 112]⟩, .string ⟨#[116]⟩, .string ⟨#[104, 116, 116, 112, 58, 47, 47, 97, 46, 98, 47, 112]⟩, .string ⟨#[]⟩, .int .i64 0] 23)) = W4 at *
  generalize w3.heap.size = g3 at *
  have HT4 : Hid (Env W4) := HT0.out.later HB4.out
  clear HA3 HB3 HT3
  refine Calls.mono (HC2.out _ HT4.out.max) ?_
  rintro r w5 ⟨rfl, hb⟩
  have HA5 : Hid _ := HA4.out.later hb HA4.out.lt
  have HX5 : Hid _ := HX4.out.later hb HX4.out.lt
  have HB5 : Hid _ := HB4.out.trans (hb.mono HB4.out.size)
  clear hb HA4 HB4 HT4 HX4
  have HA6 : Hid (EntAt (w5.alloc (.cells #[.string ⟨#[]⟩, .string ⟨#[]⟩, .string ⟨#[]⟩, .string ⟨#[]⟩, .string ⟨#[]⟩, .int .i64 0] 23)) g1 K1) := HA5.out.alloc _
  have HX6 : Hid (EntAt (w5.alloc (.cells #[.string ⟨#[]⟩, .string ⟨#[]⟩, .string ⟨#[]⟩, .string ⟨#[]⟩, .string ⟨#[]⟩, .int .i64 0] 23)) g3 K1) := HX5.out.alloc _
  have HB6 : Hid (Below w.heap.size w (w5.alloc (.cells #[.string ⟨#[]⟩, .string ⟨#[]⟩, .string ⟨#[]⟩, .string ⟨#[]⟩, .string ⟨#[]⟩, .int .i64 0] 23))) := HB5.out.alloc HB5.out.size _
  have HT6 : Hid (Env (w5.alloc (.cells #[.string ⟨#[]⟩, .string ⟨#[]⟩, .string ⟨#[]⟩, .string ⟨#[]⟩, .string ⟨#[]⟩, .int .i64 0] 23))) := HT0.out.later HB6.out
  have hl5 := HA5.out.lt
  have hx5 := HX5.out.lt
  have c0 : w5.cell? ⟨g1, 0, none⟩ = some (.string ⟨#[104, 116, 116, 112, 58, 47, 47, 97, 46, 98, 47]⟩) := (EntAt.cells HA5.out).1
  have c1 : w5.cell? ⟨g1, 1, none⟩ = some (.string ⟨#[104, 116, 116, 112, 58, 47, 47, 97, 46, 98, 47, 112]⟩) := (EntAt.cells HA5.out).2.1
  have c2 : w5.cell? ⟨g1, 2, none⟩ = some (.string ⟨#[116]⟩) := (EntAt.cells HA5.out).2.2.1
  have c3 : w5.cell? ⟨g1, 3, none⟩ = some (.string ⟨#[104, 116, 116, 112, 58, 47, 47, 97, 46, 98, 47, 112]⟩) := (EntAt.cells HA5.out).2.2.2.1
  have c4 : w5.cell? ⟨g1, 4, none⟩ = some (.string ⟨#[]⟩) := (EntAt.cells HA5.out).2.2.2.2.1
  have c5 : w5.cell? ⟨g1, 5, none⟩ = some (.int .i64 0) := (EntAt.cells HA5.out).2.2.2.2.2
  go_wp2_with fail
  refine Calls.mono (HR1.out _ HT6.out.max) ?_
  rintro r w7 ⟨rfl, hb⟩
  have HA7 : Hid _ := HA6.out.later hb HA6.out.lt
  have HX7 : Hid _ := HX6.out.later hb HX6.out.lt
  have HB7 : Hid _ := HB6.out.trans (hb.mono HB6.out.size)
  have HT7 : Hid (Env w7) := HT6.out.later hb
  clear hb HA6 HX6 HB6 HT6 c0 c1 c2 c3 c4 c5
  have c0 : w7.cell? ⟨g1, 0, none⟩ = some (.string ⟨#[104, 116, 116, 112, 58, 47, 47, 97, 46, 98, 47]⟩) := (EntAt.cells HA7.out).1
  have c1 : w7.cell? ⟨g1, 1, none⟩ = some (.string ⟨#[104, 116, 116, 112, 58, 47, 47, 97, 46, 98, 47, 112]⟩) := (EntAt.cells HA7.out).2.1
  have c2 : w7.cell? ⟨g1, 2, none⟩ = some (.string ⟨#[116]⟩) := (EntAt.cells HA7.out).2.2.1
  have c3 : w7.cell? ⟨g1, 3, none⟩ = some (.string ⟨#[104, 116, 116, 112, 58, 47, 47, 97, 46, 98, 47, 112]⟩) := (EntAt.cells HA7.out).2.2.2.1
  have c4 : w7.cell? ⟨g1, 4, none⟩ = some (.string ⟨#[]⟩) := (EntAt.cells HA7.out).2.2.2.2.1
  have c5 : w7.cell? ⟨g1, 5, none⟩ = some (.int .i64 0) := (EntAt.cells HA7.out).2.2.2.2.2
  have d0 : w7.cell? ⟨g3, 0, none⟩ = some (.string ⟨#[104, 116, 116, 112, 58, 47, 47, 97, 46, 98, 47]⟩) := (EntAt.cells HX7.out).1
  have d1 : w7.cell? ⟨g3, 1, none⟩ = some (.string ⟨#[104, 116, 116, 112, 58, 47, 47, 97, 46, 98, 47, 112]⟩) := (EntAt.cells HX7.out).2.1
  have d2 : w7.cell? ⟨g3, 2, none⟩ = some (.string ⟨#[116]⟩) := (EntAt.cells HX7.out).2.2.1
  have d3 : w7.cell? ⟨g3, 3, none⟩ = some (.string ⟨#[104, 116, 116, 112, 58, 47, 47, 97, 46, 98, 47, 112]⟩) := (EntAt.cells HX7.out).2.2.2.1
  have d4 : w7.cell? ⟨g3, 4, none⟩ = some (.string ⟨#[]⟩) := (EntAt.cells HX7.out).2.2.2.2.1
  have d5 : w7.cell? ⟨g3, 5, none⟩ = some (.int .i64 0) := (EntAt.cells HX7.out).2.2.2.2.2
  go_wp2_with fail
  refine Calls.mono (HI1.out _ HT7.out) ?_
  rintro r w8 ⟨rfl, hb⟩
  have HB8 : Hid _ := HB7.out.trans (hb.mono HB7.out.size)
  clear hb
  generalize (u8v (idN K1)).toArray = A at *
  go_wp2
  go_ret
  exact ⟨rfl, HB8.out⟩
end Go.Proofs.YtdikjodgendgdaaGreatDoor
namespace Go.Proofs.YtdikjodgendgdaaGreatDoor
open Go.RowKit NumMath
open EntMath (E bytes0)
set_option maxRecDepth 100000
set_option linter.unusedVariables false
set_option linter.unusedSimpArgs false

theorem tab5_ok (A s : List Nat) (hA : ∀ c ∈ A, c < 256) (hs : ∀ c ∈ s, c < 256) (hAl : A.length ≤ 25) (hsl : s.length ≤ 500) (q : Nat) :
    (∀ c ∈ [A, s, [116], [], [98]][q]?.getD [], c < 256) ∧ ([A, s, [116], [], [98]][q]?.getD []).length ≤ 500 := by
  match q with
  | 0 => exact ⟨hA, by show A.length ≤ 500; omega⟩
  | 1 => exact ⟨hs, hsl⟩
  | 2 => exact ⟨by simp, by simp⟩
  | 3 => exact ⟨by simp, by simp⟩
  | 4 => exact ⟨by simp, by simp⟩
  | q + 5 => exact ⟨by simp, by simp⟩

set_option maxHeartbeats 32000000 in
theorem entryReads_walk (a0 : Option Addr) (zs : List Int) (cap0 : Nat) (n1 n2 n3 n4 n5 n6 : Int) (s7 : ByteArray) (W : World) (ht : Env W)
    (hr0 : Row .u8 W a0 zs) (hc0 : zs.length ≤ cap0) (hm0 : cap0 ≤ maxLen) (hn0 : a0 = none → cap0 = 0) (hw0 : ∀ n ∈ zs, (Lit.int .u8 n).wf = true) (hs0 : cap0 * 1 ≤ 140737488351232)
    (w1 : (Lit.int .u8 n1).wf = true) (w2 : (Lit.int .u8 n2).wf = true) (w3 : (Lit.int .u16 n3).wf = true) (w4 : (Lit.int .i64 n4).wf = true) (w5 : (Lit.int .u8 n5).wf = true) (w6 : (Lit.int .u8 n6).wf = true) (hs7 : s7.size ≤ 140737488355328) :
    Calls Tryz.prog 5 #[.slice a0 zs.length cap0, .int .u8 n1, .int .u8 n2, .int .u16 n3, .int .i64 n4, .int .u8 n5, .int .u8 n6, .string s7] W fun r W' => r = .returned (.bool true) ∧ Below W.heap.size W W' := by
  obtain ⟨s, hsb, rfl⟩ := any_str s7
  have hb1 := bounds_u8 w1
  have hb2 := bounds_u8 w2
  have hb3 := bounds_u16 w3
  have hb4 := bounds_i64 w4
  have hb5 := bounds_u8 w5
  have hb6 := bounds_u8 w6
  obtain ⟨k, rfl⟩ : ∃ n : Nat, n1 = (n : Int) := ⟨n1.toNat, by omega⟩
  obtain ⟨j, rfl⟩ : ∃ n : Nat, n2 = (n : Int) := ⟨n2.toNat, by omega⟩
  obtain ⟨tm, rfl⟩ : ∃ n : Nat, n3 = (n : Int) := ⟨n3.toNat, by omega⟩
  obtain ⟨hw, rfl⟩ : ∃ n : Nat, n6 = (n : Int) := ⟨n6.toNat, by omega⟩
  have hzb : ∀ c ∈ zs, 0 ≤ c ∧ c ≤ 255 := fun c hc => bounds_u8 (hw0 c hc)
  have HT0 : Hid _ := ht
  have HK : Hid _ := known_any W ht
  have hsz := strN_size s
  have HSb : Hid _ := hsb
  have HZb : Hid _ := hzb
  have HRest : Hid (Rest W a0 zs cap0) := ⟨hr0, hc0, hm0, hn0⟩
  have hmc : (cap0 : Int) ≤ 9223372036854775807 := by unfold maxLen at hm0; omega
  clear ht w1 w2 w3 w4 w5 w6 hr0 hn0 hw0 hsb hzb hm0
  by_cases hbig : zs.length ≤ 1000 ∧ s.length ≤ 500
  · obtain ⟨hzl, hsl⟩ := hbig
    have HSe : Hid (∀ w, _) := fun w => seatEntry_any k j tm w (by omega) (by omega) (by omega)
    have hri := seatE_right k j tm
    have hfit := EFit.of (EntMath.right_fit hri)
    have HBy : Hid (∀ w, _) := fun w => refEntBytes_any (seatE k j tm) w hfit
    have hbl := EntMath.bytes_len (seatE k j tm)
    have HAd : Hid (∀ w, _) := fun w => seatAddr_any k w (by omega)
    obtain ⟨hAb, hAl, _⟩ := addrs_lt _ (seatA5_mem k)
    have HTab : Hid _ := tab5_ok (seatA5 k) s hAb HSb.out hAl hsl
    generalize seatA5 k = A at *
    generalize seatE k j tm = e at *
    have HBb : Hid _ := EntMath.bytes_byte e
    generalize EntMath.bytes e = be at *
    unfold entV at HSe HBy
    obtain ⟨hd, hhd⟩ : ∃ hd, hd = hw / 8 := ⟨_, rfl⟩
    have r1 : IntKind.u8.wrap ((hw : Int) / 8) = (hd : Int) := by simp [IntKind.wrap, IntKind.bits, IntKind.signed]; omega
    have r2 : IntKind.i64.wrap (hd : Int) = (hd : Int) := by rw [IntKind.wrap_i64]; omega
    have hd32 : hd < 32 := by omega
    have r3 : IntKind.u64.wrap (tm : Int) = (tm : Int) := by rw [IntKind.wrap_u64]; omega
    have hzl1 : (zs.length : Int) ≤ 1000 := by omega
    have hsl1 : (s.length : Int) ≤ 500 := by omega
    clear hri hfit hhd hAb hAl
    generalize hZL : zs.length = ZL at *
    have HZL : Hid _ := hZL
    clear hZL
    go_enter Tryz.func5, Tryz.ntmps5
    go_wp2_with fail
    refine Calls.mono HK.out ?_
    rintro r w1 ⟨rfl, hb⟩
    have HB1 : Hid _ := hb
    clear hb
    go_wp2_with fail
    refine Calls.mono (HSe.out _) ?_
    rintro r w2 ⟨rfl, hb⟩
    have HB2 : Hid _ := HB1.out.trans (hb.mono HB1.out.size)
    clear hb HB1
    go_wp2_with fail
    refine Calls.mono (HBy.out _) ?_
    rintro r w3 ⟨vl, rfl, hby, hb⟩
    obtain ⟨al, cl, rfl, hrl, hbbl, hcl, hml, hnl⟩ := hby
    have HLl : Hid (Rest w3 al be cl) := ⟨hrl, hcl, hml, hnl⟩
    have HB3 : Hid _ := HB2.out.trans (hb.mono HB2.out.size)
    clear hb HB2 hrl hbbl hml hnl
    generalize hbel : be.length = bl at *
    have HBel : Hid _ := hbel
    clear hbel
    go_wp2_with fail
    go_loopw [18, 19] (fun p i wr => ∃ (q : Nat) (P : List Int), q ≤ 5 ∧ i = .int .i64 (q : Int) ∧ Bytes wr p P ∧ P.length ≤ 510 * q ∧ Below w3.heap.size w3 wr) (fun _ i _ => 5 - (intOf i).toNat)
    case atStart => exact ⟨0, [], by omega, rfl, ⟨none, 0, rfl, .inl rfl, by simp, by simp, by unfold maxLen; omega, fun _ => rfl⟩, by simp, Below.refl _ _⟩
    case round =>
      obtain ⟨q, P, hq, rfl, hby, hPl, hbw⟩ := hrel
      obtain ⟨ap, cp, rfl, hrp, hbp, hcp, hmp, hnp⟩ := hby
      have HBw : Hid _ := hbw
      have HBW : Hid (Below W.heap.size W wr) := HB3.out.trans (hbw.mono HB3.out.size)
      have HRp : Hid (Rest wr ap P cp) := ⟨hrp, hcp, hmp, hnp⟩
      have HPb : Hid _ := hbp
      clear hbw hrp hbp hmp hnp
      by_cases hlt : q < 5
      · obtain ⟨ix, hix, hix5⟩ : ∃ ix : Nat, ((q : Int) + (hd : Int)).tmod 5 = (ix : Int) ∧ ix < 5 := ⟨(q + hd) % 5, by rw [Int.tmod_eq_emod_of_nonneg (by omega)]; omega, by omega⟩
        obtain ⟨htb, htl⟩ := HTab.out ix
        have hixi : (ix : Int) < 5 := by omega
        obtain ⟨st, hst⟩ : ∃ st, st = [A, s, [116], [], [98]][ix]?.getD [] := ⟨_, rfl⟩
        rw [← hst] at htb htl
        have HCell : Hid (∀ w : World, (w.alloc (.cells #[.string (strN A), .string (strN s), .string ⟨#[116]⟩, .string ⟨#[]⟩, .string ⟨#[98]⟩] 9)).cell? ⟨w.heap.size, ix, none⟩ = some (.string (strN st))) := by
          intro w
          rw [hst]
          exact txt_cell w [A, s, [116], [], [98]] ix hix5
        clear hst
        generalize hPL : P.length = pl at *
        have HPL : Hid _ := hPL
        clear hPL
        go_wp2_with fail
        refine Calls.mono (HAd.out _) ?_
        rintro r w4 ⟨rfl, hb⟩
        have hcell := HCell.out w4
        have HB4 : Hid (Below wr.heap.size wr (w4.alloc (.cells #[.string (strN A), .string (strN s), .string ⟨#[116]⟩, .string ⟨#[]⟩, .string ⟨#[98]⟩] 9))) := hb.alloc hb.size _
        clear hb
        go_wp2_with fail
        generalize World.alloc w4 _ = w5 at *
        have hRp := HRp.out.later HB4.out
        have HTx : Hid _ := refText_any ap P cp st w5 hRp.row hRp.len hRp.lim hRp.nil htb (by have := HPL.out; omega)
        rw [HPL.out] at HTx
        clear hRp hcell
        refine Calls.mono HTx.out ?_
        rintro r w6 ⟨v, rfl, hown, hb⟩
        have HO : Hid (Bytes w6 v (P ++ EntMath.textB st)) := own_bytes hown (by
          intro c hc
          rcases List.mem_append.1 hc with h | h
          · exact HPb.out c h
          · exact EntMath.textB_byte htb (by omega) c h)
        have HB6 : Hid _ := HBw.out.trans ((HB4.out.trans (hb.mono HB4.out.size)).mono HBw.out.size)
        have HLn : Hid ((P ++ EntMath.textB st).length ≤ 510 * (q + 1)) := by
          show _ ≤ _
          have := D_len (st.length : Int); have := HPL.out
          rw [List.length_append, EntMath.textB_len]; omega
        clear hown hb HTx
        go_wp2
        go_roundw
        case rel => exact ⟨q + 1, _, by omega, by go_num, HO.out, HLn.out, HB6.out⟩
        case measure => simp [intOf]; omega
      · obtain rfl : q = 5 := by omega
        clear hlt hq
        have HM : Hid (∀ w', Below wr.heap.size wr w' → MaxLen w') := fun w' h => MaxLen.later HT0.out.max (HBW.out.trans (h.mono HBW.out.size))
        have HRd1 : Hid (∀ w', Below wr.heap.size wr w' → Calls Tryz.prog 27 #[.slice a0 ZL cap0] w' fun r w'' => r = .returned (.bool true) ∧ Below w'.heap.size w' w'') := by
          intro w' h
          have := reads_any a0 zs cap0 w' (HM.out w' h) (HRest.out.later (HBW.out.trans (h.mono HBW.out.size))) HZb.out (by rw [HZL.out]; omega)
          rw [HZL.out] at this
          exact this
        have HCh : Hid (∀ w', Below wr.heap.size wr w' → Calls Tryz.prog 28 #[.slice al bl cl, .int .i64 n4, .int .u8 n5, .int .u8 (hw : Int)] w' fun r w'' => ∃ v, r = .returned v ∧ ∃ ys, Bytes w'' v ys ∧ ys.length ≤ bl + 1 ∧ Below w'.heap.size w' w'') := by
          intro w' h
          have hR := HLl.out.later (HBw.out.trans (h.mono HBw.out.size))
          have := changed_any al be cl n4 n5 (hw : Int) w' hR.row HBb.out hR.len hR.lim hR.nil (by have := HBel.out; omega) hb4.1 hb4.2 hb5 (by omega)
          rw [HBel.out] at this
          exact this
        have HRdv : Hid (∀ (w' : World) (v : Value) (ys : List Int), Below wr.heap.size wr w' → Bytes w' v ys → ys.length ≤ 10000 → Calls Tryz.prog 27 #[v] w' fun r w'' => r = .returned (.bool true) ∧ Below w'.heap.size w' w'') := by
          intro w' v ys h hby hl
          obtain ⟨ab, cb, rfl, h1, h2, h3, h4, h5⟩ := hby
          exact reads_any ab ys cb w' (HM.out w' h) ⟨h1, h3, h4, h5⟩ h2 hl
        have HRdp : Hid (∀ w', Below wr.heap.size wr w' → Calls Tryz.prog 27 #[.slice ap P.length cp] w' fun r w'' => r = .returned (.bool true) ∧ Below w'.heap.size w' w'') := by
          intro w' h
          exact reads_any ap P cp w' (HM.out w' h) (HRp.out.later h) HPb.out (by omega)
        have HPu : Hid (∀ w', Below wr.heap.size wr w' → Calls Tryz.prog 29 #[.slice ap P.length cp, .slice (some ⟨w'.heap.size, 0, none⟩) 1 1] (w'.alloc (.cells #[.int .u64 (tm : Int)] 60)) fun r w'' => ∃ v, r = .returned v ∧ (∃ ys, Bytes w'' v ys ∧ ys.length ≤ 10000) ∧ Below w'.heap.size w' w'') := by
          intro w' h
          have hbal : Below w'.heap.size w' (w'.alloc (.cells #[.int .u64 (tm : Int)] 60)) := (Below.refl _ _).alloc (Nat.le_refl _) _
          have hR := (HRp.out.later h).later hbal
          have hd := D_len (tm : Int)
          have := refPut_any ap (some ⟨w'.heap.size, 0, none⟩) P [(tm : Int)] cp 1 (w'.alloc (.cells #[.int .u64 (tm : Int)] 60)) hR.row hR.len hR.lim hR.nil (lit_row w' .u64 [(tm : Int)] 60 _ rfl) (by simp; omega) (by simp) (by decide) (by simp; omega)
          refine this.mono ?_
          rintro r w'' ⟨v, rfl, hown, hb⟩
          rw [List.flatMap_cons, List.flatMap_nil, List.append_nil] at hown
          refine ⟨v, rfl, ⟨_, own_bytes hown ?_, by simp; omega⟩, hbal.trans (hb.mono hbal.size)⟩
          intro c hc
          rcases List.mem_append.1 hc with h | h
          · exact HPb.out c h
          · exact D_byte (by omega) (by omega) c h
        have HB7 : Hid (Below wr.heap.size wr wr) := Below.refl _ _
        clear hcp
        generalize P.length = pl at *
        go_wp2_with fail
        refine Calls.mono (HRd1.out _ HB7.out) ?_
        rintro r w8 ⟨rfl, hb⟩
        have HB8 : Hid _ := HB7.out.trans (hb.mono HB7.out.size)
        clear hb
        go_wp2_with fail
        refine Calls.mono (HCh.out _ HB8.out) ?_
        rintro r w9 ⟨v9, rfl, ⟨ys, hby, hyl, hb⟩⟩
        have HB9 : Hid _ := HB8.out.trans (hb.mono HB8.out.size)
        have HR9 : Hid _ := HRdv.out w9 v9 ys HB9.out hby (by omega)
        clear hb hby hyl
        go_wp2_with fail
        refine Calls.mono HR9.out ?_
        rintro r w10 ⟨rfl, hb⟩
        have HB10 : Hid _ := HB9.out.trans (hb.mono HB9.out.size)
        clear hb HR9
        go_wp2_with fail
        refine Calls.mono (HRdp.out _ HB10.out) ?_
        rintro r w11 ⟨rfl, hb⟩
        have HB11 : Hid _ := HB10.out.trans (hb.mono HB10.out.size)
        clear hb
        go_wp2_with fail
        refine Calls.mono (HPu.out _ HB11.out) ?_
        rintro r w12 ⟨v12, rfl, ⟨ys12, hby, hyl⟩, hb⟩
        have HB12 : Hid _ := HB11.out.trans (hb.mono HB11.out.size)
        have HR12 : Hid _ := HRdv.out w12 v12 ys12 HB12.out hby hyl
        clear hb hby hyl
        go_wp2_with fail
        refine Calls.mono HR12.out ?_
        rintro r w13 ⟨rfl, hb⟩
        have HB13 : Hid _ := HB12.out.trans (hb.mono HB12.out.size)
        clear hb HR12
        go_wp2
        go_ret
        exact ⟨rfl, HBW.out.trans (HB13.out.mono HBW.out.size)⟩
  · by_cases h9 : 1000 < zs.length
    · have h9i : (1000 : Int) < (zs.length : Int) := by omega
      go_enter Tryz.func5, Tryz.ntmps5
      go_wp2_with fail
      refine Calls.mono HK.out ?_
      rintro r w1 ⟨rfl, hb⟩
      go_wp2
      go_ret
      exact ⟨rfl, hb⟩
    · have h9i : (zs.length : Int) ≤ 1000 := by omega
      have h6i : (500 : Int) < (s.length : Int) := by omega
      go_enter Tryz.func5, Tryz.ntmps5
      go_wp2_with fail
      refine Calls.mono HK.out ?_
      rintro r w1 ⟨rfl, hb⟩
      go_wp2
      go_ret
      exact ⟨rfl, hb⟩
end Go.Proofs.YtdikjodgendgdaaGreatDoor
namespace Go.Proofs.YtdikjodgendgdaaGreatDoor
open Go.RowKit NumMath
set_option maxRecDepth 100000
set_option linter.unusedVariables false
set_option linter.unusedSimpArgs false

theorem gFirst : Tryz.prog.globalNamed "newsreel/sha.firstWords" = some 0 := by kernel_rfl
theorem gKeys : Tryz.prog.globalNamed "newsreel/newsreelref1.keys" = some 1 := by kernel_rfl
theorem gRound : Tryz.prog.globalNamed "newsreel/sha.roundWords" = some 2 := by kernel_rfl
theorem tFirst : (Tryz.prog.globals[0]?).map (·.type) = some 118 := by kernel_rfl
theorem tKeys : (Tryz.prog.globals[1]?).map (·.type) = some 140 := by kernel_rfl
theorem tRound : (Tryz.prog.globals[2]?).map (·.type) = some 140 := by kernel_rfl
theorem cells47 : Tryz.prog.cellsOf 118 = 8 := by kernel_rfl
theorem cells58 : Tryz.prog.cellsOf 140 = 64 := by kernel_rfl
theorem cells46 : Tryz.prog.cellsOf 117 = 1 := by kernel_rfl

theorem ints_at (l : List Nat) (i : Nat) (h : i < l.length) : (ints l).getD i 0 = ((l[i]?.getD 0 : Nat) : Int) := by simp [ints, h]

theorem tab_of_laid {l : List (String × DataW Unit)} {W : World} (h : laidMetH Tryz.prog l W)
    (h1 : l.filter (fun x => x.1 == "newsreel/sha.firstWords") = [("newsreel/sha.firstWords", Lib.tabData .u32 (ints ShaMath.init.list))] := by kernel_rfl)
    (h2 : l.filter (fun x => x.1 == "newsreel/sha.roundWords") = [("newsreel/sha.roundWords", Lib.tabData .u32 (ints ShaMath.keys))] := by kernel_rfl) : Tabs W := by
  have a1 := h.filter (fun x => x.1 == "newsreel/sha.firstWords")
  have a2 := h.filter (fun x => x.1 == "newsreel/sha.roundWords")
  rw [h1] at a1
  rw [h2] at a2
  have t1 : Lib.TabIs Tryz.prog W "newsreel/sha.firstWords" .u32 (ints ShaMath.init.list) := Lib.tabIs_of_head (rest := []) gFirst tFirst Tryz.underlying118 Tryz.underlying117 cells46 cells47 a1
  have t2 : Lib.TabIs Tryz.prog W "newsreel/sha.roundWords" .u32 (ints ShaMath.keys) := Lib.tabIs_of_head (rest := []) gRound tRound Tryz.underlying140 Tryz.underlying117 cells46 cells58 a2
  refine ⟨fun i hi => ?_, fun i hi => ?_⟩
  · rw [t1.cell gFirst i (by rw [ints_len]; exact hi), ints_at _ _ hi]
  · rw [t2.cell gRound i (by rw [ints_len, keys_len]; exact hi), ints_at _ _ (by rw [keys_len]; exact hi)]
theorem tab3_of_laid {l : List (String × DataW Unit)} {W : World} (h : laidMetH Tryz.prog l W)
    (h1 : l.filter (fun x => x.1 == "newsreel/sha.firstWords") = [("newsreel/sha.firstWords", Lib.tabData .u32 (ints ShaMath.init.list))] := by kernel_rfl)
    (h2 : l.filter (fun x => x.1 == "newsreel/sha.roundWords") = [("newsreel/sha.roundWords", Lib.tabData .u32 (ints ShaMath.keys))] := by kernel_rfl)
    (h3 : l.filter (fun x => x.1 == "newsreel/newsreelref1.keys") = [("newsreel/newsreelref1.keys", Lib.tabData .u32 (ints ShaMath.keys))] := by kernel_rfl) : Tabs3 W := by
  refine ⟨tab_of_laid h h1 h2, fun i hi => ?_⟩
  have a := h.filter (fun x => x.1 == "newsreel/newsreelref1.keys")
  rw [h3] at a
  have t : Lib.TabIs Tryz.prog W "newsreel/newsreelref1.keys" .u32 (ints ShaMath.keys) := Lib.tabIs_of_head (rest := []) gKeys tKeys Tryz.underlying140 Tryz.underlying117 cells46 cells58 a
  rw [t.cell gKeys i (by rw [ints_len, keys_len]; exact hi), ints_at _ _ (by rw [keys_len]; exact hi)]

theorem maxLen_of_shape {W : World} (h : W.ShapedOpen Tryz.prog) : MaxLen W :=
  cell_of_shapedOpen_int (g := 3) (t := 3) (zero := #[.int .i64 0]) h (of_decide_eq_true (by kernel_rfl)) (by kernel_rfl) rfl (by kernel_rfl) (by kernel_rfl) Tryz.underlying3
/-- What the laws' calls read of the package's variables. -/
structure Env3 (w : World) : Prop where
  env : Env w
  keys : RefTab w
theorem env3_of {l : List (String × DataW Unit)} {W : World} (h : laidMetH Tryz.prog l W) (hs : W.ShapedOpen Tryz.prog)
    (h1 : l.filter (fun x => x.1 == "newsreel/sha.firstWords") = [("newsreel/sha.firstWords", Lib.tabData .u32 (ints ShaMath.init.list))] := by kernel_rfl)
    (h2 : l.filter (fun x => x.1 == "newsreel/sha.roundWords") = [("newsreel/sha.roundWords", Lib.tabData .u32 (ints ShaMath.keys))] := by kernel_rfl)
    (h3 : l.filter (fun x => x.1 == "newsreel/newsreelref1.keys") = [("newsreel/newsreelref1.keys", Lib.tabData .u32 (ints ShaMath.keys))] := by kernel_rfl) : Env3 W :=
  ⟨⟨tab_of_laid h h1 h2, maxLen_of_shape hs⟩, (tab3_of_laid h h1 h2 h3).2⟩
theorem env_of {l : List (String × DataW Unit)} {W : World} (h : laidMetH Tryz.prog l W) (hs : W.ShapedOpen Tryz.prog)
    (h1 : l.filter (fun x => x.1 == "newsreel/sha.firstWords") = [("newsreel/sha.firstWords", Lib.tabData .u32 (ints ShaMath.init.list))] := by kernel_rfl)
    (h2 : l.filter (fun x => x.1 == "newsreel/sha.roundWords") = [("newsreel/sha.roundWords", Lib.tabData .u32 (ints ShaMath.keys))] := by kernel_rfl) : Env W :=
  ⟨tab_of_laid h h1 h2, maxLen_of_shape hs⟩
/-- A world in which the tables lie as their initialisers lay them. -/
def layIn (cs : Array Value) (g : Nat) (h : Array Obj) : Array Obj := h.modify g fun
  | .cells _ t frozen => .cells cs t frozen
  | o => o
def laidWorld (W : World) : World :=
  { W with heap := layIn (u32s ShaMath.init.list).toArray 0 (layIn (u32s ShaMath.keys).toArray 1 (layIn (u32s ShaMath.keys).toArray 2 (layIn (Lib.firstTab.map (Value.int .u8)).toArray 4 (layIn ((List.range 16).flatMap fun i => [Value.int .u8 (Lib.accLo i : Int), Value.int .u8 (Lib.accHi i : Int)]).toArray 5 W.heap)))) }
end Go.Proofs.YtdikjodgendgdaaGreatDoor

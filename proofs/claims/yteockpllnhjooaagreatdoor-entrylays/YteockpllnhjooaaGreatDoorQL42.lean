/-
  L6Known.
-/
import Derived.Test.YteockpllnhjooaaGreatDoorQL39
import Derived.Test.YteockpllnhjooaaGreatDoorQL40
import Derived.Test.YteockpllnhjooaaGreatDoorQL41
namespace Go.Proofs.YteockpllnhjooaaGreatDoor
open Go.RowKit NumMath
open EntMath (E textB iN nI bytes0)
set_option maxRecDepth 100000
set_option linter.unusedVariables false
set_option linter.unusedSimpArgs false
attribute [-simp] Tryz.isAgg33 Tryz.zeroValue33

def K0 : E := ⟨[72, 84, 84, 80, 58, 47, 47, 97, 46, 98], [], [32, 116, 32], [104, 116, 116, 112, 58, 47, 47, 97, 46, 98, 47, 112], [], 0⟩
def K1 : E := ⟨[104, 116, 116, 112, 58, 47, 47, 97, 46, 98, 47], [104, 116, 116, 112, 58, 47, 47, 97, 46, 98, 47, 112], [116], [104, 116, 116, 112, 58, 47, 47, 97, 46, 98, 47, 112], [], 0⟩
def K2 : E := ⟨[104, 116, 116, 112, 58, 47, 47, 97, 46, 98], [], [], [], [], 0⟩
theorem clean_K0 : EntMath.clean K0 = (K1, 0) := by kernel_rfl
theorem clean_K2 : EntMath.clean K2 = (EntMath.zero, 26) := by kernel_rfl
theorem right_K1 : EntMath.right K1 = true := EntMath.clean_right clean_K0
theorem read_K1 : EntMath.read (EntMath.bytes K1) = (K1, 0) := by
  unfold EntMath.bytes; rw [if_pos right_K1]; exact EntMath.read_bytes right_K1
theorem fit_K0 : EFit K0 := ⟨by decide, by decide, by decide, by decide, by decide, by decide, by decide, by decide, by decide, by decide, by decide, by decide⟩
theorem fit_K1 : EFit K1 := EFit.of (EntMath.right_fit right_K1)
theorem fit_K2 : EFit K2 := ⟨by decide, by decide, by decide, by decide, by decide, by decide, by decide, by decide, by decide, by decide, by decide, by decide⟩
theorem id_K1 : (idN K1)[0]?.getD 0 ≠ 0 := by
  have h : (ShaMath.digest (nI (bytes0 K1)))[0]?.getD 0 ≠ 0 := by decide +kernel
  unfold idN; rw [if_pos right_K1]; exact h
theorem eq_head (l m : List Nat) (hl : l.length = 32) (hm : m.length = 32) (h : l[0]?.getD 0 ≠ m[0]?.getD 0) (w : World) : (Op.equalIn 10000 33 (.agg (u8v l).toArray) (.agg (u8v m).toArray)).run Tryz.prog w = .ok false w := by
  obtain ⟨i, hi⟩ : ∃ i, Tryz.prog.info? 5 = some i := by
    cases hq : Tryz.prog.info? 5 with
    | none => have := size5; simp [hq] at this
    | some x => exact ⟨x, rfl⟩
  have hh := run_equalIn_array (P := Tryz.prog) w 9999 (t := 33) (u8v l).toArray (u8v m).toArray Tryz.underlying33 hi
  rw [hh, cells5]
  show (Op.eqItems 9999 5 1 (u8v l).toArray (u8v m).toArray (0 :: (List.range 31).map (· + 1))).run Tryz.prog w = _
  have hp1 := run_part8 (w := w) (u8v l) 0 (.int .u8 ((l[0]?.getD 0 : Nat) : Int)) (by simp [u8v, hl])
  have hp2 := run_part8 (w := w) (u8v m) 0 (.int .u8 ((m[0]?.getD 0 : Nat) : Int)) (by simp [u8v, hm])
  have he := run_equalIn_int (P := Tryz.prog) w 9998 5 .u8 .u8 ((l[0]?.getD 0 : Nat) : Int) ((m[0]?.getD 0 : Nat) : Int) Tryz.underlying5
  have hne : (((l[0]?.getD 0 : Nat) : Int) == ((m[0]?.getD 0 : Nat) : Int)) = false := by simp; omega
  rw [hne] at he
  simp only [Op.eqItems, Sem.run_bind, hp1, hp2, Result.andThen_ok, he]
  rfl

set_option maxHeartbeats 16000000 in
theorem known_any (w : World) (ht : Env w) :
    Calls Tryz.prog 6 #[] w fun r w' => r = .returned (.bool true) ∧ Below w.heap.size w w' := by
  have HT0 : Hid _ := ht
  have HC0 : Hid (∀ w, MaxLen w → Calls Tryz.prog 10 #[.agg #[.string ⟨#[72, 84, 84, 80, 58, 47, 47, 97, 46, 98]⟩, .string ⟨#[]⟩, .string ⟨#[32, 116, 32]⟩, .string ⟨#[104, 116, 116, 112, 58, 47, 47, 97, 46, 98, 47, 112]⟩, .string ⟨#[]⟩, .int .i64 0]] w fun r w' => r = .returned (.tuple #[.agg #[.string ⟨#[104, 116, 116, 112, 58, 47, 47, 97, 46, 98, 47]⟩, .string ⟨#[104, 116, 116, 112, 58, 47, 47, 97, 46, 98, 47, 112]⟩, .string ⟨#[116]⟩, .string ⟨#[104, 116, 116, 112, 58, 47, 47, 97, 46, 98, 47, 112]⟩, .string ⟨#[]⟩, .int .i64 0], .int .i64 0]) ∧ Below w.heap.size w w') := by
    intro w ht
    have := entClean_any K0 w ht fit_K0
    rw [clean_K0] at this
    exact this
  have HC2 : Hid (∀ w, MaxLen w → Calls Tryz.prog 10 #[.agg #[.string ⟨#[104, 116, 116, 112, 58, 47, 47, 97, 46, 98]⟩, .string ⟨#[]⟩, .string ⟨#[]⟩, .string ⟨#[]⟩, .string ⟨#[]⟩, .int .i64 0]] w fun r w' => r = .returned (.tuple #[.agg #[.string ⟨#[]⟩, .string ⟨#[]⟩, .string ⟨#[]⟩, .string ⟨#[]⟩, .string ⟨#[]⟩, .int .i64 0], .int .i64 26]) ∧ Below w.heap.size w w') := by
    intro w ht
    have := entClean_any K2 w ht fit_K2
    rw [clean_K2] at this
    exact this
  have HB1 : Hid (∀ w, MaxLen w → Calls Tryz.prog 17 #[.agg #[.string ⟨#[104, 116, 116, 112, 58, 47, 47, 97, 46, 98, 47]⟩, .string ⟨#[104, 116, 116, 112, 58, 47, 47, 97, 46, 98, 47, 112]⟩, .string ⟨#[116]⟩, .string ⟨#[104, 116, 116, 112, 58, 47, 47, 97, 46, 98, 47, 112]⟩, .string ⟨#[]⟩, .int .i64 0]] w fun r w' => ∃ v, r = .returned v ∧ Bytes w' v (EntMath.bytes K1) ∧ Below w.heap.size w w') := fun w ht => entBytes_any K1 w ht fit_K1
  have HR1 : Hid (∀ w, MaxLen w → Calls Tryz.prog 12 #[.agg #[.string ⟨#[104, 116, 116, 112, 58, 47, 47, 97, 46, 98, 47]⟩, .string ⟨#[104, 116, 116, 112, 58, 47, 47, 97, 46, 98, 47, 112]⟩, .string ⟨#[116]⟩, .string ⟨#[104, 116, 116, 112, 58, 47, 47, 97, 46, 98, 47, 112]⟩, .string ⟨#[]⟩, .int .i64 0]] w fun r w' => r = .returned (.bool true) ∧ Below w.heap.size w w') := by
    intro w ht
    have := entRight_any K1 w ht fit_K1
    rw [right_K1] at this
    exact this
  have HI1 : Hid (∀ w, Env w → Calls Tryz.prog 19 #[.agg #[.string ⟨#[104, 116, 116, 112, 58, 47, 47, 97, 46, 98, 47]⟩, .string ⟨#[104, 116, 116, 112, 58, 47, 47, 97, 46, 98, 47, 112]⟩, .string ⟨#[116]⟩, .string ⟨#[104, 116, 116, 112, 58, 47, 47, 97, 46, 98, 47, 112]⟩, .string ⟨#[]⟩, .int .i64 0]] w fun r w' => r = .returned (.agg (u8v (idN K1)).toArray) ∧ Below w.heap.size w w') := fun w ht => entId_any K1 w ht fit_K1
  have HRd : Hid (∀ (a : Option Addr) (c : Nat) (w : World), MaxLen w → Rest w a (EntMath.bytes K1) c → Calls Tryz.prog 21 #[.slice a (EntMath.bytes K1).length c] w fun r w' => r = .returned (.tuple #[.agg #[.string ⟨#[104, 116, 116, 112, 58, 47, 47, 97, 46, 98, 47]⟩, .string ⟨#[104, 116, 116, 112, 58, 47, 47, 97, 46, 98, 47, 112]⟩, .string ⟨#[116]⟩, .string ⟨#[104, 116, 116, 112, 58, 47, 47, 97, 46, 98, 47, 112]⟩, .string ⟨#[]⟩, .int .i64 0], .int .i64 0]) ∧ Below w.heap.size w w') := by
    intro a c w ht hR
    have := entRead_any a (EntMath.bytes K1) c w ht hR (EntMath.bytes_byte K1) (by
      intro s hs
      have h1 := (EntMath.texts_one 5 (EntMath.bytes K1) (EntMath.bytes_byte K1) (by decide +kernel)).2.2.2.2 s hs
      have := EntMath.bytes_len K1
      omega)
    rw [read_K1] at this
    exact this
  obtain ⟨z26, i26⟩ := zero_of_info zero26
  have hne := eq_head (idN K1) (List.replicate 32 0) (idN_len K1) rfl id_K1
  obtain ⟨Z, hZ⟩ : ∃ Z, Z = u8v (List.replicate 32 0) := ⟨_, rfl⟩
  rw [← hZ] at z26 hne
  clear ht hZ i26
  go_enter Tryz.func6, Tryz.ntmps6
  go_wp2_with fail
  refine Calls.mono (HC0.out _ HT0.out.max) ?_
  rintro r w1 ⟨rfl, hb⟩
  have HB : Hid _ := hb
  clear hb
  go_wp2_with fail
  have HA1 : Hid (EntAt (w1.alloc (.cells #[.string ⟨#[104, 116, 116, 112, 58, 47, 47, 97, 46, 98, 47]⟩, .string ⟨#[104, 116, 116, 112, 58, 47, 47, 97, 46, 98, 47, 112]⟩, .string ⟨#[116]⟩, .string ⟨#[104, 116, 116, 112, 58, 47, 47, 97, 46, 98, 47, 112]⟩, .string ⟨#[]⟩, .int .i64 0] 23)) w1.heap.size K1) := EntAt.new w1 K1
  have HB1w : Hid (Below w.heap.size w (w1.alloc (.cells #[.string ⟨#[104, 116, 116, 112, 58, 47, 47, 97, 46, 98, 47]⟩, .string ⟨#[104, 116, 116, 112, 58, 47, 47, 97, 46, 98, 47, 112]⟩, .string ⟨#[116]⟩, .string ⟨#[104, 116, 116, 112, 58, 47, 47, 97, 46, 98, 47, 112]⟩, .string ⟨#[]⟩, .int .i64 0] 23))) := HB.out.alloc HB.out.size _
  generalize (w1.alloc (.cells #[.string ⟨#[104, 116, 116, 112, 58, 47, 47, 97, 46, 98, 47]⟩, .string ⟨#[104, 116, 116, 112, 58, 47, 47, 97, 46, 98, 47, 112]⟩, .string ⟨#[116]⟩, .string ⟨#[104, 116, 116, 112, 58, 47, 47, 97, 46, 98, 47, 112]⟩, .string ⟨#[]⟩, .int .i64 0] 23)) = W1 at *
  generalize w1.heap.size = g1 at *
  have HT1 : Hid (Env W1) := HT0.out.later HB1w.out
  refine Calls.mono (HB1.out _ HT1.out.max) ?_
  rintro r w2 ⟨v, rfl, hby, hb⟩
  obtain ⟨a, c, rfl, hrow, hbb, hc, hm, hn⟩ := hby
  have HA2 : Hid _ := HA1.out.later hb HA1.out.lt
  have HB2 : Hid _ := HB1w.out.trans (hb.mono HB1w.out.size)
  have HT2 : Hid (Env w2) := HT1.out.later hb
  have HRe : Hid (Rest w2 a (EntMath.bytes K1) c) := ⟨hrow, hc, hm, hn⟩
  have HRd2 : Hid _ := HRd.out a c w2 HT2.out.max HRe.out
  clear hb hrow hbb hc hm hn HA1 HB1w HT1 HRd HRe HB
  generalize (EntMath.bytes K1).length = L at *
  go_wp2_with fail
  refine Calls.mono HRd2.out ?_
  rintro r w3 ⟨rfl, hb⟩
  have HA3 : Hid _ := HA2.out.later hb HA2.out.lt
  have HB3 : Hid _ := HB2.out.trans (hb.mono HB2.out.size)
  have HT3 : Hid (Env w3) := HT2.out.later hb
  clear hb HA2 HB2 HT2 HRd2
  go_wp2_with fail
  have HX4 : Hid (EntAt (w3.alloc (.cells #[.string ⟨#[104, 116, 116, 112, 58, 47, 47, 97, 46, 98, 47]⟩, .string ⟨#[104, 116, 116, 112, 58, 47, 47, 97, 46, 98, 47, 112]⟩, .string ⟨#[116]⟩, .string ⟨#[104, 116, 116, 112, 58, 47, 47, 97, 46, 98, 47, 112]⟩, .string ⟨#[]⟩, .int .i64 0] 23)) w3.heap.size K1) := EntAt.new w3 K1
  have HA4 : Hid (EntAt (w3.alloc (.cells #[.string ⟨#[104, 116, 116, 112, 58, 47, 47, 97, 46, 98, 47]⟩, .string ⟨#[104, 116, 116, 112, 58, 47, 47, 97, 46, 98, 47, 112]⟩, .string ⟨#[116]⟩, .string ⟨#[104, 116, 116, 112, 58, 47, 47, 97, 46, 98, 47, 112]⟩, .string ⟨#[]⟩, .int .i64 0] 23)) g1 K1) := HA3.out.alloc _
  have HB4 : Hid (Below w.heap.size w (w3.alloc (.cells #[.string ⟨#[104, 116, 116, 112, 58, 47, 47, 97, 46, 98, 47]⟩, .string ⟨#[104, 116, 116, 112, 58, 47, 47, 97, 46, 98, 47, 112]⟩, .string ⟨#[116]⟩, .string ⟨#[104, 116, 116, 112, 58, 47, 47, 97, 46, 98, 47, 112]⟩, .string ⟨#[]⟩, .int .i64 0] 23))) := HB3.out.alloc HB3.out.size _
  generalize (w3.alloc (.cells #[.string ⟨#[104, 116, 116, 112, 58, 47, 47, 97, 46, 98, 47]⟩, .string ⟨#[104, 116, 116, 112, 58, 47, 47, 97, 46, 98, 47, 112]⟩, .string ⟨#[116]⟩, .string ⟨#[104, 116, 116, 112, 58, 47, 47, 97, 46, 98, 47, 112]⟩, .string ⟨#[]⟩, .int .i64 0] 23)) = W4 at *
  generalize w3.heap.size = g3 at *
  have HT4 : Hid (Env W4) := HT0.out.later HB4.out
  clear HA3 HB3 HT3
  refine Calls.mono (HC2.out _ HT4.out.max) ?_
  rintro r w5 ⟨rfl, hb⟩
  have HA5 : Hid _ := HA4.out.later hb HA4.out.lt
  have HX5 : Hid _ := HX4.out.later hb HX4.out.lt
  have HB5 : Hid _ := HB4.out.trans (hb.mono HB4.out.size)
  clear hb HA4 HB4 HT4 HX4
  have HA6 : Hid (EntAt (w5.alloc (.cells #[.string ⟨#[]⟩, .string ⟨#[]⟩, .string ⟨#[]⟩, .string ⟨#[]⟩, .string ⟨#[]⟩, .int .i64 0] 23)) g1 K1) := HA5.out.alloc _
  have HX6 : Hid (EntAt (w5.alloc (.cells #[.string ⟨#[]⟩, .string ⟨#[]⟩, .string ⟨#[]⟩, .string ⟨#[]⟩, .string ⟨#[]⟩, .int .i64 0] 23)) g3 K1) := HX5.out.alloc _
  have HB6 : Hid (Below w.heap.size w (w5.alloc (.cells #[.string ⟨#[]⟩, .string ⟨#[]⟩, .string ⟨#[]⟩, .string ⟨#[]⟩, .string ⟨#[]⟩, .int .i64 0] 23))) := HB5.out.alloc HB5.out.size _
  have HT6 : Hid (Env (w5.alloc (.cells #[.string ⟨#[]⟩, .string ⟨#[]⟩, .string ⟨#[]⟩, .string ⟨#[]⟩, .string ⟨#[]⟩, .int .i64 0] 23))) := HT0.out.later HB6.out
  have hl5 := HA5.out.lt
  have hx5 := HX5.out.lt
  have c0 : w5.cell? ⟨g1, 0, none⟩ = some (.string ⟨#[104, 116, 116, 112, 58, 47, 47, 97, 46, 98, 47]⟩) := (EntAt.cells HA5.out).1
  have c1 : w5.cell? ⟨g1, 1, none⟩ = some (.string ⟨#[104, 116, 116, 112, 58, 47, 47, 97, 46, 98, 47, 112]⟩) := (EntAt.cells HA5.out).2.1
  have c2 : w5.cell? ⟨g1, 2, none⟩ = some (.string ⟨#[116]⟩) := (EntAt.cells HA5.out).2.2.1
  have c3 : w5.cell? ⟨g1, 3, none⟩ = some (.string ⟨#[104, 116, 116, 112, 58, 47, 47, 97, 46, 98, 47, 112]⟩) := (EntAt.cells HA5.out).2.2.2.1
  have c4 : w5.cell? ⟨g1, 4, none⟩ = some (.string ⟨#[]⟩) := (EntAt.cells HA5.out).2.2.2.2.1
  have c5 : w5.cell? ⟨g1, 5, none⟩ = some (.int .i64 0) := (EntAt.cells HA5.out).2.2.2.2.2
  go_wp2_with fail
  refine Calls.mono (HR1.out _ HT6.out.max) ?_
  rintro r w7 ⟨rfl, hb⟩
  have HA7 : Hid _ := HA6.out.later hb HA6.out.lt
  have HX7 : Hid _ := HX6.out.later hb HX6.out.lt
  have HB7 : Hid _ := HB6.out.trans (hb.mono HB6.out.size)
  have HT7 : Hid (Env w7) := HT6.out.later hb
  clear hb HA6 HX6 HB6 HT6 c0 c1 c2 c3 c4 c5
  have c0 : w7.cell? ⟨g1, 0, none⟩ = some (.string ⟨#[104, 116, 116, 112, 58, 47, 47, 97, 46, 98, 47]⟩) := (EntAt.cells HA7.out).1
  have c1 : w7.cell? ⟨g1, 1, none⟩ = some (.string ⟨#[104, 116, 116, 112, 58, 47, 47, 97, 46, 98, 47, 112]⟩) := (EntAt.cells HA7.out).2.1
  have c2 : w7.cell? ⟨g1, 2, none⟩ = some (.string ⟨#[116]⟩) := (EntAt.cells HA7.out).2.2.1
  have c3 : w7.cell? ⟨g1, 3, none⟩ = some (.string ⟨#[104, 116, 116, 112, 58, 47, 47, 97, 46, 98, 47, 112]⟩) := (EntAt.cells HA7.out).2.2.2.1
  have c4 : w7.cell? ⟨g1, 4, none⟩ = some (.string ⟨#[]⟩) := (EntAt.cells HA7.out).2.2.2.2.1
  have c5 : w7.cell? ⟨g1, 5, none⟩ = some (.int .i64 0) := (EntAt.cells HA7.out).2.2.2.2.2
  have d0 : w7.cell? ⟨g3, 0, none⟩ = some (.string ⟨#[104, 116, 116, 112, 58, 47, 47, 97, 46, 98, 47]⟩) := (EntAt.cells HX7.out).1
  have d1 : w7.cell? ⟨g3, 1, none⟩ = some (.string ⟨#[104, 116, 116, 112, 58, 47, 47, 97, 46, 98, 47, 112]⟩) := (EntAt.cells HX7.out).2.1
  have d2 : w7.cell? ⟨g3, 2, none⟩ = some (.string ⟨#[116]⟩) := (EntAt.cells HX7.out).2.2.1
  have d3 : w7.cell? ⟨g3, 3, none⟩ = some (.string ⟨#[104, 116, 116, 112, 58, 47, 47, 97, 46, 98, 47, 112]⟩) := (EntAt.cells HX7.out).2.2.2.1
  have d4 : w7.cell? ⟨g3, 4, none⟩ = some (.string ⟨#[]⟩) := (EntAt.cells HX7.out).2.2.2.2.1
  have d5 : w7.cell? ⟨g3, 5, none⟩ = some (.int .i64 0) := (EntAt.cells HX7.out).2.2.2.2.2
  go_wp2_with fail
  refine Calls.mono (HI1.out _ HT7.out) ?_
  rintro r w8 ⟨rfl, hb⟩
  have HB8 : Hid _ := HB7.out.trans (hb.mono HB7.out.size)
  clear hb
  generalize (u8v (idN K1)).toArray = A at *
  go_wp2
  go_ret
  exact ⟨rfl, HB8.out⟩
end Go.Proofs.YteockpllnhjooaaGreatDoor

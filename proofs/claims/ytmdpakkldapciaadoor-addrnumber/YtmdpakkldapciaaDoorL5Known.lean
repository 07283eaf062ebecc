/-
  Walks of newsreellaw5.known, newsreelseat.Addr, newsreelseat.Wild.
-/
import Derived.Test.YtmdpakkldapciaaDoorFnAddrJ
import Derived.Test.YtmdpakkldapciaaDoorFnParse
import Derived.Test.YtmdpakkldapciaaDoorSeatAddr
namespace Go.Proofs.YtmdpakkldapciaaDoor
open Go.RowKit NumMath
open AddrMath (parse right hostOf)
set_option maxRecDepth 100000
set_option linter.unusedVariables false
set_option linter.unusedSimpArgs false

theorem k1 : parse [72, 84, 84, 80, 58, 47, 47, 65, 46, 98, 58, 56, 48, 47, 120, 47, 46, 46, 47, 195, 188, 63, 37, 55, 101, 35, 107] = ([104, 116, 116, 112, 58, 47, 47, 97, 46, 98, 47, 37, 67, 51, 37, 66, 67, 63, 126], 0) := by decide +kernel
theorem k2 : parse [102, 116, 112, 58, 47, 47, 97, 46, 98, 47] = ([], 25) := by decide +kernel
theorem k3 : right [104, 116, 116, 112, 115, 58, 47, 47, 99, 47] = true := by decide +kernel
theorem k4 : right [104, 116, 116, 112, 115, 58, 47, 47, 99] = false := by decide +kernel
theorem k5 : hostOf [104, 116, 116, 112, 58, 47, 47, 97, 46, 98, 58, 56, 48, 56, 48, 47, 120] = [97, 46, 98, 58, 56, 48, 56, 48] := by decide +kernel
theorem k6 : hostOf [120] = [] := by decide +kernel

set_option maxRecDepth 100000 in
set_option maxHeartbeats 4000000 in
theorem known_any (w : World) (ht : MaxLen w) :
    Calls Tryd.prog 10 #[] w fun e w' => e = .returned (.bool true) ∧ Below w.heap.size w w' := by
  have HT : Hid _ := ht
  have HK1 : Hid (∀ w, MaxLen w → Calls Tryd.prog 15 #[.string ⟨#[72, 84, 84, 80, 58, 47, 47, 65, 46, 98, 58, 56, 48, 47, 120, 47, 46, 46, 47, 195, 188, 63, 37, 55, 101, 35, 107]⟩] w fun e w' => e = .returned (.tuple #[.string ⟨#[104, 116, 116, 112, 58, 47, 47, 97, 46, 98, 47, 37, 67, 51, 37, 66, 67, 63, 126]⟩, .int .i64 0]) ∧ Below w.heap.size w w') := fun w ht => parse_at _ _ _ w ht (by decide) (by decide) k1
  have HK2 : Hid (∀ w, MaxLen w → Calls Tryd.prog 15 #[.string ⟨#[102, 116, 112, 58, 47, 47, 97, 46, 98, 47]⟩] w fun e w' => e = .returned (.tuple #[.string ⟨#[]⟩, .int .i64 25]) ∧ Below w.heap.size w w') := fun w ht => parse_at _ _ _ w ht (by decide) (by decide) k2
  have HK3 : Hid (∀ w, MaxLen w → Calls Tryd.prog 16 #[.string ⟨#[104, 116, 116, 112, 115, 58, 47, 47, 99, 47]⟩] w fun e w' => e = .returned (.bool true) ∧ Below w.heap.size w w') := by
    intro w ht
    have := right_any [104, 116, 116, 112, 115, 58, 47, 47, 99, 47] w ht (by decide) (by decide)
    rw [k3] at this; exact this
  have HK4 : Hid (∀ w, MaxLen w → Calls Tryd.prog 16 #[.string ⟨#[104, 116, 116, 112, 115, 58, 47, 47, 99]⟩] w fun e w' => e = .returned (.bool false) ∧ Below w.heap.size w w') := by
    intro w ht
    have := right_any [104, 116, 116, 112, 115, 58, 47, 47, 99] w ht (by decide) (by decide)
    rw [k4] at this; exact this
  have HK5 : Hid (∀ w, MaxLen w → Calls Tryd.prog 18 #[.string ⟨#[104, 116, 116, 112, 58, 47, 47, 97, 46, 98, 58, 56, 48, 56, 48, 47, 120]⟩] w fun e w' => e = .returned (.string ⟨#[97, 46, 98, 58, 56, 48, 56, 48]⟩) ∧ Below w.heap.size w w') := by
    intro w ht
    have := host_any [104, 116, 116, 112, 58, 47, 47, 97, 46, 98, 58, 56, 48, 56, 48, 47, 120] w ht (by decide) (by decide)
    rw [k5] at this; exact this
  have HK6 : Hid (∀ w, MaxLen w → Calls Tryd.prog 18 #[.string ⟨#[120]⟩] w fun e w' => e = .returned (.string ⟨#[]⟩) ∧ Below w.heap.size w w') := by
    intro w ht
    have := host_any [120] w ht (by decide) (by decide)
    rw [k6] at this; exact this
  have HK7 : Hid (∀ w, Calls Tryd.prog 23 #[.string ⟨#[97]⟩, .string ⟨#[98]⟩] w fun e w' => e = .returned (.bool true) ∧ w' = w) := by
    intro w
    have := less_any ⟨#[97]⟩ ⟨#[98]⟩ w
    have e : Op.bytesLess (⟨#[97]⟩ : ByteArray).toList (⟨#[98]⟩ : ByteArray).toList = true := by
      have h1 := strN_toList [97]; have h2 := strN_toList [98]
      rw [show (⟨#[97]⟩ : ByteArray) = strN [97] from rfl, show (⟨#[98]⟩ : ByteArray) = strN [98] from rfl, h1, h2]; decide
    rw [e] at this; exact this
  have HK8 : Hid (∀ w, Calls Tryd.prog 23 #[.string ⟨#[98]⟩, .string ⟨#[97]⟩] w fun e w' => e = .returned (.bool false) ∧ w' = w) := by
    intro w
    have := less_any ⟨#[98]⟩ ⟨#[97]⟩ w
    have e : Op.bytesLess (⟨#[98]⟩ : ByteArray).toList (⟨#[97]⟩ : ByteArray).toList = false := by
      have h1 := strN_toList [97]; have h2 := strN_toList [98]
      rw [show (⟨#[97]⟩ : ByteArray) = strN [97] from rfl, show (⟨#[98]⟩ : ByteArray) = strN [98] from rfl, h1, h2]; decide
    rw [e] at this; exact this
  clear ht
  go_enter Tryd.func10, Tryd.ntmps10
  go_wp2_with fail
  refine Calls.mono (HK1.out _ HT.out) ?_
  rintro e w1 ⟨rfl, hb1⟩
  have HB1 : Hid _ := hb1
  clear hb1
  go_wp2_with fail
  refine Calls.mono (HK2.out _ (MaxLen.later HT.out HB1.out)) ?_
  rintro e w2 ⟨rfl, hb2⟩
  have HB2 : Hid _ := HB1.out.trans (hb2.mono HB1.out.size)
  clear hb2
  go_wp2_with fail
  refine Calls.mono (HK3.out _ (MaxLen.later HT.out HB2.out)) ?_
  rintro e w3 ⟨rfl, hb3⟩
  have HB3 : Hid _ := HB2.out.trans (hb3.mono HB2.out.size)
  clear hb3
  go_wp2_with fail
  refine Calls.mono (HK4.out _ (MaxLen.later HT.out HB3.out)) ?_
  rintro e w4 ⟨rfl, hb4⟩
  have HB4 : Hid _ := HB3.out.trans (hb4.mono HB3.out.size)
  clear hb4
  go_wp2_with fail
  refine Calls.mono (HK5.out _ (MaxLen.later HT.out HB4.out)) ?_
  rintro e w5 ⟨rfl, hb5⟩
  have HB5 : Hid _ := HB4.out.trans (hb5.mono HB4.out.size)
  clear hb5
  go_wp2_with fail
  refine Calls.mono (HK6.out _ (MaxLen.later HT.out HB5.out)) ?_
  rintro e w6 ⟨rfl, hb6⟩
  have HB6 : Hid _ := HB5.out.trans (hb6.mono HB5.out.size)
  clear hb6
  go_wp2_with fail
  refine Calls.mono (HK7.out _) ?_
  rintro e w7 ⟨rfl, h7w⟩
  subst w7
  go_wp2_with fail
  refine Calls.mono (HK8.out _) ?_
  rintro e w7 ⟨rfl, h7w⟩
  subst w7
  go_wp2
  go_ret
  exact ⟨rfl, HB6.out⟩
end Go.Proofs.YtmdpakkldapciaaDoor

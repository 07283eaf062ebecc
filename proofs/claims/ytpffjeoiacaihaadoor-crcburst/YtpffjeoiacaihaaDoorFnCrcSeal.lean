/-
  Walks of crc.trailer and crc.Seal: the bytes and behind them the four bytes of their checksum.
-/
import Derived.Test.YtpffjeoiacaihaaDoorFnCrcSum
import Derived.Test.YtpffjeoiacaihaaDoorFnRefSeal
import Derived.Test.YtpffjeoiacaihaaDoorFnFixed
import Derived.Test.YtpffjeoiacaihaaDoorFnChanged
import Derived.Test.YtpffjeoiacaihaaDoorLibConcat
namespace Go.Proofs.YtpffjeoiacaihaaDoor
open Go.RowKit NumMath
set_option maxRecDepth 100000
set_option linter.unusedVariables false
set_option linter.unusedSimpArgs false

theorem crcSum_any (a : Option Addr) (ps : List Part) (cap : Nat) (w : World) (ht : Tab w) (hr : Parts w a ps) (hc : ps.length ≤ cap) (hm : cap ≤ maxLen) :
    Calls Tryd.prog 16 #[.slice a ps.length cap] w fun e w' => e = .returned (.int .u32 (crcOf (allB ps) : Nat)) ∧ Below w.heap.size w w' := by
  refine (crcSum_same a ps cap w ht hr hc hm).mono ?_
  rintro e w' ⟨rfl, rfl⟩
  exact ⟨rfl, Below.refl _ _⟩

theorem trailer_any (a : Option Addr) (zs : List Int) (cap : Nat) (w : World) (ht : Tab w) (hr : Row .u8 w a zs) (hb : ∀ c ∈ zs, 0 ≤ c ∧ c ≤ 255) (hc : zs.length ≤ cap) (hm : cap ≤ maxLen) :
    Calls Tryd.prog 43 #[.slice a zs.length cap] w fun e w' => ∃ v, e = .returned v ∧ Bytes w' v (fixL 4 (crcOf zs : Nat)) ∧ Below w.heap.size w w' := by
  have hcl := crcOf_lt hb
  have hok : (Part.mk a zs cap).ok w := ⟨hr, hb, hc, hm⟩
  go_enter Tryd.func43, Tryd.ntmps43
  go_wp2_with fail
  refine (crcSum_same (some ⟨w.heap.size, 0, none⟩) [⟨a, zs, cap⟩] 1 _ (ht.alloc _) (by exact lit_parts w [⟨a, zs, cap⟩] 24 _ rfl (by intro p hp; simp at hp; subst hp; exact hok)) (by simp) (by decide)).mono ?_
  rintro e w2 ⟨rfl, hw2⟩
  rw [allB_one]
  obtain ⟨C, hC⟩ : ∃ C : Nat, C = crcOf zs := ⟨_, rfl⟩
  have HC : Hid (C = crcOf zs) := hC
  have hC1 : CrcMath.more 0 (nats zs) = C := hC.symm
  rw [← hC] at hcl
  show _
  rw [show (Part.mk a zs cap).zs = zs from rfl, hC1]
  have hb2 : Below w.heap.size w w2 := by rw [hw2]; exact (Below.refl _ _).alloc (Nat.le_refl _) _
  clear hok hC hC1 hw2
  go_wp2_with fail
  refine (fixed_any (C : Int) 4 w2 (by omega) (by omega) (by decide) (by decide)).mono ?_
  rintro e w3 ⟨rfl, hown3, hb3⟩
  rw [show held 4 = 4 from rfl] at hown3 ⊢
  go_wp2
  go_ret
  exact ⟨_, rfl, by rw [← HC.out]; exact own_bytes hown3 (fixL_byte 4 _), hb2.trans (hb3.mono hb2.size)⟩

theorem crcSeal_any (a : Option Addr) (zs : List Int) (cap : Nat) (w : World) (ht : Tab w) (hr : Row .u8 w a zs) (hb : ∀ c ∈ zs, 0 ≤ c ∧ c ≤ 255) (hc : zs.length ≤ cap) (hm : cap ≤ maxLen) (hnil : a = none → cap = 0) (hs : zs.length + 4 ≤ 140737488355328) :
    Calls Tryd.prog 20 #[.slice a zs.length cap] w fun e w' => ∃ v, e = .returned v ∧ Bytes w' v (sealL zs) ∧ Below w.heap.size w w' := by
  go_enter Tryd.func20, Tryd.ntmps20
  go_wp2_with fail
  refine (trailer_any a zs cap w ht hr hb hc hm).mono ?_
  rintro e w1 ⟨v1, rfl, ⟨a1, c1, rfl, hr1, hb1, hc1, hm1, hn1⟩, hB1⟩
  have hfl := fixL_len 4 ((crcOf zs : Nat) : Int)
  have hok : (Part.mk a zs cap).ok w1 := ⟨hr.later hB1, hb, hc, hm⟩
  have hok1 : (Part.mk a1 (fixL 4 ((crcOf zs : Nat) : Int)) c1).ok w1 := ⟨hr1, hb1, hc1, hm1⟩
  have hcat := concat_any (some ⟨w1.heap.size, 0, none⟩) [⟨a, zs, cap⟩, ⟨a1, fixL 4 ((crcOf zs : Nat) : Int), c1⟩] 2 _ (lit_parts w1 _ 24 _ rfl (by intro p hp; simp at hp; rcases hp with rfl | rfl; exact hok; exact hok1))
    (by intro p hp; simp at hp; rcases hp with rfl | rfl; exact hnil; exact hn1) (by simp) (by decide) (by simp [allB, hfl]; omega)
  have hab : allB [⟨a, zs, cap⟩, ⟨a1, fixL 4 ((crcOf zs : Nat) : Int), c1⟩] = sealL zs := by simp [allB, sealL]
  rw [hab] at hcat
  have HC : Hid _ := hcat
  have hsb := sealL_byte hb
  clear hcat hok hok1 hr1 hab hfl
  go_wp2_with fail
  refine Calls.mono HC.out ?_
  rintro e w2 ⟨v2, rfl, hown2, hB2⟩
  go_wp2
  go_ret
  exact ⟨_, rfl, own_bytes hown2 hsb, (hB1.alloc hB1.size _).trans (hB2.mono (by simp; have := hB1.size; omega))⟩
end Go.Proofs.YtpffjeoiacaihaaDoor

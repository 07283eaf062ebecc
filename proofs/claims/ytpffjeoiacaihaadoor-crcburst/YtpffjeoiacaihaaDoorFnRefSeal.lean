/-
  Walk of newsreelref1.Seal: the bytes and behind them the four bytes of their checksum.
-/
import Derived.Test.YtpffjeoiacaihaaDoorFnRefSum
import Derived.Test.YtpffjeoiacaihaaDoorFnRefFixed
namespace Go.Proofs.YtpffjeoiacaihaaDoor
open Go.RowKit NumMath
set_option maxRecDepth 100000
set_option linter.unusedVariables false
set_option linter.unusedSimpArgs false

/-- The checksum of some bytes. -/
def crcOf (zs : List Int) : Nat := CrcMath.more 0 (nats zs)
theorem crcOf_lt {zs : List Int} (h : ∀ c ∈ zs, 0 ≤ c ∧ c ≤ 255) : crcOf zs < 4294967296 := CrcMath.more_lt (by decide) _ (nats_byte h)
/-- What is sealed. -/
def sealL (zs : List Int) : List Int := zs ++ fixL 4 (crcOf zs : Nat)
theorem sealL_len (zs : List Int) : (sealL zs).length = zs.length + 4 := by simp [sealL, fixL_len]
theorem sealL_byte {zs : List Int} (h : ∀ c ∈ zs, 0 ≤ c ∧ c ≤ 255) : ∀ c ∈ sealL zs, 0 ≤ c ∧ c ≤ 255 := bytes_append h (fixL_byte 4 _)
theorem allB_one (p : Part) : allB [p] = p.zs := by simp [allB]

set_option maxHeartbeats 800000 in
theorem refSeal_any (a : Option Addr) (zs : List Int) (cap : Nat) (w : World) (hr : Row .u8 w a zs) (hb : ∀ c ∈ zs, 0 ≤ c ∧ c ≤ 255) (hc : zs.length ≤ cap) (hm : cap ≤ maxLen) (hnil : a = none → cap = 0) (hs : zs.length + 4 ≤ 140737488355328) :
    Calls Tryd.prog 22 #[.slice a zs.length cap] w fun e w' => ∃ v, e = .returned v ∧ w'.ownsRow w.heap.size 5 1 v (zs.length + 4) ((sealL zs).map (Value.int .u8)) ∧ Below w.heap.size w w' := by
  obtain ⟨i0, hi, hz0, hz1, hz2⟩ := info_parts Tryd.info5
  have hnl : a = none → zs.length = 0 ∧ cap = 0 := fun h => by have := hnil h; omega
  have HNL : Hid _ := hnl
  have hcl := crcOf_lt hb
  clear hnil hnl
  go_enter Tryd.func22, Tryd.ntmps22
  go_wp2_with (at_builtin; refine wpList_append_own_any rfl _ (.tmp 3) 24 rfl w.heap.size 5 i0 (.int .u8 0) 1 1 Tryd.underlying24 hi hz0 hz1 hz2 rfl (by decide) (.slice none 0 0) 0 [] rfl (World.ownsRow_nil _ _ _ _) a zs.length cap (zs.map (Value.int .u8)) rfl (by rw [List.length_map, Nat.mul_one]) HNL.out hr.news (ints_oneCell _ _) (by unfold maxLen; omega) (by omega) (Nat.le_refl _) ?_; intro v1 w1 hown1 hgrow1)
  have hb1 : Below w.heap.size w w1 := (Below.refl _ _).grown hgrow1 (Nat.le_refl _) (fun k hk => by cases hk)
  rw [Nat.zero_add, List.nil_append] at hown1
  have hok : (Part.mk a zs cap).ok w1 := ⟨hr.later hb1, hb, hc, hm⟩
  clear hgrow1
  refine (refSum_any (some ⟨w1.heap.size, 0, none⟩) [⟨a, zs, cap⟩] 1 _ (by exact lit_parts w1 [⟨a, zs, cap⟩] 24 _ rfl (by intro p hp; simp at hp; subst hp; exact hok)) (by simp) (by decide)).mono ?_
  rintro e w2 ⟨rfl, hw2⟩
  rw [allB_one]
  obtain ⟨C, hC⟩ : ∃ C : Nat, C = crcOf zs := ⟨_, rfl⟩
  have HC : Hid (C = crcOf zs) := hC
  have hC1 : CrcMath.more 0 (nats zs) = C := hC.symm
  rw [← hC] at hcl
  show _
  rw [show (Part.mk a zs cap).zs = zs from rfl, hC1]
  have hown2 : w2.ownsRow w.heap.size 5 1 v1 zs.length (zs.map (Value.int .u8)) := by rw [hw2]; exact hown1.alloc _
  have hb2 : Below w.heap.size w w2 := by rw [hw2]; exact hb1.alloc hb1.size _
  clear hok hC hC1 hw2 hown1 hb1
  go_wp2_with fail
  refine (refFixed_any (C : Int) 4 w2 (by omega) (by omega) (by decide) (by decide)).mono ?_
  rintro e w3 ⟨r, rfl, hown3, hb3⟩
  rw [show held 4 = 4 from rfl] at hown3
  obtain ⟨ar, cr, hr3, hrow3, hc3, hm3, hn3⟩ := own_shape hown3
  subst hr3
  have hfl := fixL_len 4 (C : Int)
  have hown4 : w3.ownsRow w.heap.size 5 1 v1 zs.length (zs.map (Value.int .u8)) := hown2.kept ⟨hb3.os, hb3.tape, hb3.output, hb3.size, fun k hk _ => hb3.block k hk⟩ (row := none) (by cases v1.ownBlock <;> simp)
  have hb3' : Below w.heap.size w w3 := hb2.trans (hb3.mono hb2.size)
  rw [hfl]
  clear hown3 hown2
  go_wp2_with (at_builtin; refine wpList_append_own_any rfl (.tmp 4) (.tmp 9) 24 rfl w.heap.size 5 i0 (.int .u8 0) 1 1 Tryd.underlying24 hi hz0 hz1 hz2 rfl (by decide) v1 zs.length _ rfl hown4 ar 4 cr ((fixL 4 (C : Int)).map (Value.int .u8)) rfl (by rw [List.length_map, hfl]) (by intro h; have := hn3 h; omega) hrow3.news (ints_oneCell _ _) (by unfold maxLen; omega) (by omega) hb3'.size ?_; intro v5 w5 hown5 hgrow5)
  have hb5 : Below w.heap.size w w5 := hb3'.grown hgrow5 hb3'.size (own_ge hown4)
  go_ret
  refine ⟨_, rfl, ?_, hb5⟩
  rw [← List.map_append] at hown5
  unfold sealL
  rw [← HC.out]
  exact hown5
end Go.Proofs.YtpffjeoiacaihaaDoor

/-
  Walk of crc.Sum: the checksum of parts, one behind another.
-/
import Derived.Test.YtpffjeoiacaihaaDoorFnCrcMore
namespace Go.Proofs.YtpffjeoiacaihaaDoor
open Go.RowKit NumMath
set_option maxRecDepth 100000
set_option linter.unusedVariables false
set_option linter.unusedSimpArgs false

theorem crcSum_same (a : Option Addr) (ps : List Part) (cap : Nat) (w : World) (ht : Tab w) (hr : Parts w a ps) (hc : ps.length ≤ cap) (hm : cap ≤ maxLen) :
    Calls Tryd.prog 16 #[.slice a ps.length cap] w fun e w' => e = .returned (.int .u32 (CrcMath.more 0 (nats (allB ps)) : Nat)) ∧ w' = w := by
  unfold maxLen at hm
  obtain ⟨n, hn⟩ : ∃ n, n = ps.length := ⟨_, rfl⟩
  rw [← hn] at hc ⊢
  have HN : Hid (n = ps.length) := hn
  have hat : ∀ j, j < n → ∃ b off, a = some ⟨b, off, none⟩ ∧ w.cell? ⟨b, off + j, none⟩ = some (ps[j]?.getD noPart).val ∧ (ps[j]?.getD noPart).ok w := by
    intro j hj
    rcases hr.1 with h | ⟨b, off, ha, hcell⟩
    · rw [h] at hn; simp at hn; omega
    · exact ⟨b, off, ha, hcell j (by omega), hr.2 _ (part_mem ps j (by omega))⟩
  have HAT : Hid _ := hat
  have HTB : Hid _ := ht
  have hall := allB_byte hr.2
  clear hat hn ht
  go_enter Tryd.func16, Tryd.ntmps16
  go_wp2
  go_loop [3, 8] (fun x i => ∃ k : Nat, k ≤ n ∧ i = .int .i64 k ∧ x = .int .u32 (CrcMath.more 0 (nats (allB (ps.take k))) : Nat)) (fun _ i => n - (intOf i).toNat)
  case atStart => exact ⟨0, by omega, rfl, by rw [List.take_zero]; show _ = Value.int .u32 ((CrcMath.more 0 [] : Nat) : Int); rw [CrcMath.more_nil]; rfl⟩
  case round =>
    obtain ⟨k, hk, rfl, rfl⟩ := hrel
    by_cases hlt : k < n
    · obtain ⟨b, off, hal, hcl, hok⟩ := HAT.out k hlt
      obtain ⟨p, hp⟩ : ∃ p, p = ps[k]?.getD noPart := ⟨_, rfl⟩
      rw [← hp] at hcl hok
      unfold Part.val at hcl
      have HNX : Hid (allB (ps.take (k + 1)) = allB (ps.take k) ++ p.zs) := by rw [hp]; exact parts_snoc ps k (by have := HN.out; omega)
      obtain ⟨q, hq⟩ : ∃ q, q = CrcMath.more 0 (nats (allB (ps.take k))) := ⟨_, rfl⟩
      have hql : q < 4294967296 := by
        rw [hq]
        refine CrcMath.more_lt (by decide) _ (nats_byte ?_)
        intro c hc
        obtain ⟨x, hx, hcx⟩ := List.mem_flatMap.1 hc
        exact hall c (List.mem_flatMap.2 ⟨x, List.mem_of_mem_take hx, hcx⟩)
      have HE : Hid (CrcMath.more q (nats p.zs) = CrcMath.more 0 (nats (allB (ps.take (k + 1))))) := by
        show CrcMath.more q (nats p.zs) = _
        rw [HNX.out, nats_append, CrcMath.more_append, ← hq]
      have hM := crcMore_same q p.a p.zs p.cap w HTB.out hql hok.1 hok.2.1 hok.2.2.1 hok.2.2.2
      have HM : Hid _ := hM
      rw [← hq]
      subst hal
      clear hp hq hM hok
      go_wp2_with (go_at_call 18; refine Calls.mono HM.out ?_; rintro e w9 ⟨rfl, rfl⟩)
      go_round
      case rel => exact ⟨k + 1, by omega, by go_num, by rw [HE.out]⟩
      case measure => simp [intOf]; omega
    · have hkn : k = n := by omega
      have HE : Hid (ps.take k = ps) := by show ps.take k = ps; rw [hkn, HN.out]; exact List.take_of_length_le (Nat.le_refl _)
      clear hkn
      go_wp2
      go_ret
      exact ⟨congrArg (fun l => Ending.returned (Value.int .u32 ((CrcMath.more 0 (nats (allB l)) : Nat) : Int))) HE.out, rfl⟩
end Go.Proofs.YtpffjeoiacaihaaDoor

/-
  Walk of newsreellaw10.bits.
-/
import Derived.Test.YtnkjfenibgiaaaaFnSpanE
import Derived.Test.YtnkjfenibgiaaaaI64Kit
import Derived.Test.YtnkjfenibgiaaaaBitsMath
namespace Go.Proofs.Ytnkjfenibgiaaaa
open Go.RowKit NumMath
open SpanMath (Rg)
set_option maxRecDepth 100000
set_option linter.unusedVariables false
set_option linter.unusedSimpArgs false

theorem bit_and {V : Int} (h0 : 0 ≤ V) (h1 : V ≤ 18446744073709551615) : bits .and .u64 V 1 = V % 2 := by
  rw [u64_and V 1 (by omega) (by omega) (by omega) (by omega), show (1 : Int).toNat = 1 from rfl, Nat.and_one_is_mod]
  omega
theorem shr_fits {x : Int} (h : 0 ≤ x ∧ x ≤ 18446744073709551615) (k : Nat) : 0 ≤ x / 2 ^ k ∧ x / 2 ^ k ≤ 18446744073709551615 := by
  have hp : (0 : Int) < 2 ^ k := Int.pow_pos (by decide)
  refine ⟨Int.ediv_nonneg h.1 (Int.le_of_lt hp), ?_⟩
  have := Int.ediv_le_self (2 ^ k : Int) h.1
  omega

set_option maxHeartbeats 8000000 in
theorem bits_any (x base : Int) (w : World) (hx : 0 ≤ x ∧ x ≤ 18446744073709551615) (hb : 0 ≤ base ∧ base ≤ 1099511627775) :
    Calls Try.prog 26 #[.int .u64 x, .int .i64 base] w fun e w' => ∃ v, e = .returned v ∧ GOwn w' w.heap.size v (SpanMath.ofTo (SpanMath.bitsTo x base 64)) ∧ Below w.heap.size w w' := by
  have HF : Hid (∀ k, SpanMath.bitsTo x base (k + 1) = if SpanMath.bit x k = true then SpanMath.bitsTo x base k ++ [base + 1 + k] else SpanMath.bitsTo x base k) := fun k => SpanMath.bitsTo_succ x base k
  have HL : Hid (∀ k, (SpanMath.bitsTo x base k).length ≤ k) := fun k => SpanMath.bitsTo_len x base k
  go_enter Try.func26, Try.ntmps26
  go_wp2
  go_loopw [5, 6] (fun v i wr => ∃ k : Nat, k ≤ 64 ∧ i = .int .i64 k ∧ NOwn wr w.heap.size v (SpanMath.bitsTo x base k) ∧ Below w.heap.size w wr) (fun _ i _ => 64 - (intOf i).toNat)
  case atStart => exact ⟨0, by omega, rfl, NOwn.nil _ _, Below.refl _ _⟩
  case round =>
    obtain ⟨k, hk, rfl, hO, hB⟩ := hrel
    have HO : Hid (NOwn wr w.heap.size _ (SpanMath.bitsTo x base k)) := hO
    have HB : Hid (Below w.heap.size w wr) := hB
    clear hO hB
    by_cases hkn : k < 64
    · have hki : decide ((k : Int) < 64) = true := by simp; omega
      have HF2 : Hid _ := HF.out k
      have hlen := HL.out k
      have e1 : IntKind.i64.wrap (base + 1) = base + 1 := by rw [IntKind.wrap_i64]; omega
      have e2 : IntKind.i64.wrap (base + 1 + (k : Int)) = base + 1 + (k : Int) := by rw [IntKind.wrap_i64]; omega
      obtain ⟨hs0, hs1⟩ := shr_fits hx k
      have hand := bit_and hs0 hs1
      by_cases hbit : SpanMath.bit x k = true
      · have hq : x / 2 ^ k % 2 = 1 := by simpa [SpanMath.bit] using hbit
        rw [hq] at hand
        have HF3 : Hid (SpanMath.bitsTo x base (k + 1) = SpanMath.bitsTo x base k ++ [base + 1 + k]) := by show _ = _; rw [HF2.out, if_pos hbit]
        have HLi : Hid (Row .i64 (wr.alloc (.cells #[.int .i64 (base + 1 + k)] 2)) (some ⟨wr.heap.size, 0, none⟩) [base + 1 + (k : Int)]) := lit_row wr .i64 [base + 1 + (k : Int)] 2 _ rfl
        have hb8 : Below wr.heap.size wr (wr.alloc (.cells #[.int .i64 (base + 1 + k)] 2)) := (Below.refl _ _).alloc (Nat.le_refl _) _
        have HO8 : Hid _ := HO.out.later hb8
        have HB8 : Hid _ := HB.out.trans (hb8.mono HB.out.size)
        clear hbit hq HF2 hb8 HO HB
        generalize SpanMath.bitsTo x base k = bs at *
        go_wp2_with (at_builtin; refine wpList_app_i64 rfl _ _ rfl w.heap.size _ bs rfl HO8.out (some ⟨wr.heap.size, 0, none⟩) 1 [base + 1 + (k : Int)] 1 rfl rfl HLi.out (by simp) (Nat.le_refl _) (by simp; omega) HB8.out.size ?_; intro v4 w4 hown4 hgrow4)
        have HO4 := hown4
        rw [← HF3.out] at HO4
        have HO5 : Hid _ := HO4
        have HB4 : Hid (Below w.heap.size w w4) := HB8.out.grown hgrow4 HB8.out.size (fun q hq => (HO8.out.lt q hq).1)
        clear hown4 hgrow4 HO8 HB8 HO4
        go_wp2
        go_roundw
        case rel => exact ⟨k + 1, by omega, by go_num, HO5.out, HB4.out⟩
        case measure => simp [intOf]; omega
      · have hq : x / 2 ^ k % 2 = 0 := by
          have : ¬ x / 2 ^ k % 2 = 1 := by simpa [SpanMath.bit] using hbit
          omega
        rw [hq] at hand
        have HO4 := HO
        rw [show SpanMath.bitsTo x base k = SpanMath.bitsTo x base (k + 1) by rw [HF2.out, if_neg hbit]] at HO4
        clear hbit hq HF2 HO
        go_wp2
        go_roundw
        case rel => exact ⟨k + 1, by omega, by go_num, HO4.out, HB.out⟩
        case measure => simp [intOf]; omega
    · have hkk : k = 64 := by omega
      have hki : decide ((k : Int) < 64) = false := by simp; omega
      have HO5 := HO
      rw [hkk] at HO5
      clear HO
      obtain ⟨a, cap, rfl, hrow, hc, hm, hn⟩ := HO5.out.row
      have HR : Hid _ := refSpanOf_any a (SpanMath.bitsTo x base 64) cap wr hrow hc hm (by have := HL.out 64; omega)
      clear HO5 hrow
      go_wp2_with fail
      refine Calls.mono HR.out ?_
      rintro e w4 ⟨v4, rfl, hown4, hb4⟩
      have HO4 : Hid (GOwn w4 w.heap.size v4 (SpanMath.ofTo (SpanMath.bitsTo x base 64))) := GOwn.mono hown4 HB.out.size
      have HB4 : Hid (Below w.heap.size w w4) := HB.out.trans (hb4.mono HB.out.size)
      clear hown4 hb4 HR HB
      go_wp2
      go_ret
      exact ⟨_, rfl, HO4.out, HB4.out⟩
end Go.Proofs.Ytnkjfenibgiaaaa

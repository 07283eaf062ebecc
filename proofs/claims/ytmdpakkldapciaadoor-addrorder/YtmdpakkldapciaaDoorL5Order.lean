/-
  Walk of newsreellaw5.AddrOrder.
-/
import Derived.Test.YtmdpakkldapciaaDoorL5Known
namespace Go.Proofs.YtmdpakkldapciaaDoor
open Go.RowKit NumMath
open AddrMath (parse right hostOf)
set_option maxRecDepth 100000
set_option linter.unusedVariables false
set_option linter.unusedSimpArgs false

def ordL (k : Nat) : List Nat := [104, 116, 116, 112, 58, 47, 47, 97, 46, 98, 47] ++ List.replicate k 120
theorem ordL_len (k : Nat) : (ordL k).length = 11 + k := by simp [ordL]; omega
theorem ordL_succ (k : Nat) : ordL (k + 1) = ordL k ++ [120] := by unfold ordL; rw [List.replicate_succ', List.append_assoc]
theorem ordL_lt (k : Nat) : ∀ c ∈ ordL k, c < 256 := by
  intro c hc
  rcases List.mem_append.1 hc with h | h
  · have : ∀ c ∈ [104, 116, 116, 112, 58, 47, 47, 97, 46, 98, 47], c < 256 := by decide
    exact this c h
  · have := (List.mem_replicate.1 h).2; omega
theorem o0 : parse (ordL 188) = (ordL 188, 0) := by decide +kernel
theorem o1 : parse (ordL 188 ++ [121]) = (ordL 188 ++ [121], 0) := by decide +kernel
theorem o2 : parse (ordL 188 ++ [121, 122]) = ([], 23) := by decide +kernel
theorem r1 : right (ordL 188 ++ [121]) = true := by decide +kernel
theorem r2 : right (ordL 188 ++ [121, 122]) = false := by decide +kernel
def mlong : Value → Nat
  | .string s => s.size
  | _ => 0
def yz (m : Nat) : List Nat := [121, 122].take m

set_option maxRecDepth 100000 in
set_option maxHeartbeats 4000000 in
theorem addrOrder_walk (s0 s1 : ByteArray) (n2 : Int) (W : World) (ht : MaxLen W) (hs0 : s0.size ≤ 140737488355328) (hs1 : s1.size ≤ 140737488355328) (w2 : (Lit.int .u8 n2).wf = true) :
    Calls Tryd.prog 9 #[.string s0, .string s1, .int .u8 n2] W fun e W' => e = .returned (.bool true) ∧ Below W.heap.size W W' := by
  have hb2 := bounds_u8 w2
  obtain ⟨n, rfl⟩ : ∃ n : Nat, n2 = (n : Int) := ⟨n2.toNat, by omega⟩
  have hn : n < 256 := by omega
  have HT : Hid _ := ht
  have HK : Hid _ := known_any W ht
  have HLs : Hid (∀ w, _) := fun w => less_any s0 s1 w
  clear w2 ht
  obtain ⟨m, hm, hme⟩ : ∃ m : Nat, (n : Int) % 3 = (m : Int) ∧ m = n % 3 := ⟨n % 3, by omega, rfl⟩
  have hmT : (n : Int).tmod 3 = (m : Int) := by rw [Int.tmod_eq_emod_of_nonneg (by omega)]; exact hm
  have hm3 : m = 0 ∨ m = 1 ∨ m = 2 := by omega
  clear hme hb2
  go_enter Tryd.func9, Tryd.ntmps9
  go_wp2_with fail
  refine Calls.mono HK.out ?_
  rintro e w1 ⟨rfl, hb1⟩
  have HB1 : Hid _ := hb1
  clear hb1
  go_wp2_with fail
  go_loop [7] (fun s => ∃ k : Nat, k ≤ 188 ∧ s = .string (strN (ordL k))) (fun s => 1000 - mlong s)
  case atStart => exact ⟨0, by omega, rfl⟩
  case round =>
    obtain ⟨k, hk, rfl⟩ := hrel
    have hsz : (strN (ordL k)).size = 11 + k := by rw [strN_size, ordL_len]
    by_cases hlt : k < 188
    · have hcat : ∀ w, (Op.stringOp BinOp.add (strN (ordL k)) ⟨#[120]⟩).run Tryd.prog w = .ok (.string (strN (ordL (k + 1)))) w := by
        rw [ordL_succ]; exact sum_strN (ordL k) [120] (by rw [ordL_len]; simp; omega)
      have HM : Hid (1000 - mlong (.string (strN (ordL (k + 1)))) < 1000 - mlong (.string (strN (ordL k)))) := by
        show 1000 - (strN (ordL (k + 1))).size < 1000 - (strN (ordL k)).size
        rw [strN_size, strN_size, ordL_len, ordL_len]; omega
      generalize ordL k = A at *
      obtain ⟨B, hB⟩ : ∃ B, B = ordL (k + 1) := ⟨_, rfl⟩
      rw [← hB] at hcat HM
      have HBB : Hid _ := hB
      clear hB
      go_wp2
      go_round
      case rel => exact ⟨k + 1, by omega, by rw [HBB.out]⟩
      case measure => exact HM.out
    · have e : k = 188 := by omega
      subst e
      have HP : Hid (∀ m : Nat, m = 0 ∨ m = 1 ∨ m = 2 → ∀ w, MaxLen w → Calls Tryd.prog 15 #[.string (strN (ordL 188 ++ yz m))] w fun e w' => e = .returned (.tuple #[.string (strN (if m = 2 then [] else ordL 188 ++ yz m)), .int .i64 (((if m = 2 then 23 else 0) : Nat) : Int)]) ∧ Below w.heap.size w w') := by
        intro m hm w ht
        rcases hm with rfl | rfl | rfl
        · exact parse_at _ _ _ w ht (by intro c hc; exact ordL_lt 188 c (by simpa [yz] using hc)) (by simp [yz, ordL_len]) (by simp [yz]; exact o0)
        · exact parse_at _ _ _ w ht (by intro c hc; rcases List.mem_append.1 hc with h | h; exact ordL_lt 188 c h; simp [yz] at h; omega) (by simp [yz, ordL_len]) (by simp [yz]; exact o1)
        · exact parse_at _ _ _ w ht (by intro c hc; rcases List.mem_append.1 hc with h | h; exact ordL_lt 188 c h; simp [yz] at h; omega) (by simp [yz, ordL_len]) (by simp [yz]; exact o2)
      have HR1 : Hid (∀ w, MaxLen w → Calls Tryd.prog 16 #[.string (strN (ordL 188 ++ [121]))] w fun e w' => e = .returned (.bool true) ∧ Below w.heap.size w w') := by
        intro w ht
        have := right_any (ordL 188 ++ [121]) w ht (by intro c hc; rcases List.mem_append.1 hc with h | h; exact ordL_lt 188 c h; simp at h; omega) (by simp [ordL_len])
        rw [r1] at this; exact this
      have HR2 : Hid (∀ w, MaxLen w → Calls Tryd.prog 16 #[.string (strN (ordL 188 ++ [121, 122]))] w fun e w' => e = .returned (.bool false) ∧ Below w.heap.size w w') := by
        intro w ht
        have := right_any (ordL 188 ++ [121, 122]) w ht (by intro c hc; rcases List.mem_append.1 hc with h | h; exact ordL_lt 188 c h; simp at h; omega) (by simp [ordL_len])
        rw [r2] at this; exact this
      have hc1 : ∀ w, (Op.stringOp BinOp.add (strN (ordL 188)) ⟨#[121]⟩).run Tryd.prog w = .ok (.string (strN (ordL 188 ++ [121]))) w := sum_strN (ordL 188) [121] (by rw [ordL_len]; decide)
      have hc2 : ∀ w, (Op.stringOp BinOp.add (strN (ordL 188)) ⟨#[121, 122]⟩).run Tryd.prog w = .ok (.string (strN (ordL 188 ++ [121, 122]))) w := sum_strN (ordL 188) [121, 122] (by rw [ordL_len]; decide)
      have hsl : ∀ w, (Instr.sliceAt 9 (.string ⟨#[121, 122]⟩) none (some (.int .i64 (m : Int))) none).run Tryd.prog w = .ok (.string (strN (yz m))) w := fun w => run_slice_strN0 (w := w) [121, 122] .i64 m (by simp; omega)
      have hyl : (yz m).length = m := by unfold yz; rw [List.length_take]; simp; omega
      have hcy : ∀ w, (Op.stringOp BinOp.add (strN (ordL 188)) (strN (yz m))).run Tryd.prog w = .ok (.string (strN (ordL 188 ++ yz m))) w := sum_strN (ordL 188) (yz m) (by rw [ordL_len]; omega)
      have HPm : Hid _ := HP.out m hm3
      have hz2 : (strN (ordL 188 ++ yz m)).size = 199 + m := by rw [strN_size, List.length_append, ordL_len, hyl]
      have hbt : (Op.bytesLess s0.toList s1.toList == Op.bytesLess s0.toList s1.toList) = true := by simp
      generalize ordL 188 ++ [121] = A1 at *
      generalize ordL 188 ++ [121, 122] = A2 at *
      generalize ordL 188 ++ yz m = A3 at *
      generalize yz m = Y at *
      generalize ordL 188 = A at *
      clear HP hyl hlt hk
      by_cases hm2 : m = 2
      · rw [if_pos hm2, if_pos hm2] at HPm
        have HP2 : Hid (∀ w, MaxLen w → Calls Tryd.prog 15 #[.string (strN A3)] w fun e w' => e = .returned (.tuple #[.string ⟨#[]⟩, .int .i64 23]) ∧ Below w.heap.size w w') := HPm.out
        have hmq : ((m : Int) == 2) = true := by simp; omega
        clear hm2 hm3 HPm
        go_wp2_with fail
        refine Calls.mono (HP2.out _ (MaxLen.later HT.out HB1.out)) ?_
        rintro e w2 ⟨rfl, hb2⟩
        have HB2 : Hid _ := HB1.out.trans (hb2.mono HB1.out.size)
        clear hb2
        go_wp2
        go_ret
        exact ⟨rfl, HB2.out⟩
      · rw [if_neg hm2, if_neg hm2] at HPm
        have HP2 : Hid (∀ w, MaxLen w → Calls Tryd.prog 15 #[.string (strN A3)] w fun e w' => e = .returned (.tuple #[.string (strN A3), .int .i64 0]) ∧ Below w.heap.size w w') := HPm.out
        have hmq : ((m : Int) == 2) = false := by simp; omega
        clear hm2 hm3 HPm
        go_wp2_with fail
        refine Calls.mono (HP2.out _ (MaxLen.later HT.out HB1.out)) ?_
        rintro e w2 ⟨rfl, hb2⟩
        have HB2 : Hid _ := HB1.out.trans (hb2.mono HB1.out.size)
        clear hb2
        go_wp2_with fail
        refine Calls.mono (HLs.out _) ?_
        rintro e w3 ⟨rfl, h3w⟩
        subst w3
        go_wp2_with fail
        refine Calls.mono (HR2.out _ (MaxLen.later HT.out HB2.out)) ?_
        rintro e w4 ⟨rfl, hb4⟩
        have HB4 : Hid _ := HB2.out.trans (hb4.mono HB2.out.size)
        clear hb4
        go_wp2_with fail
        refine Calls.mono (HR1.out _ (MaxLen.later HT.out HB4.out)) ?_
        rintro e w5 ⟨rfl, hb5⟩
        have HB5 : Hid _ := HB4.out.trans (hb5.mono HB4.out.size)
        clear hb5
        go_wp2
        go_ret
        exact ⟨rfl, HB5.out⟩
end Go.Proofs.YtmdpakkldapciaaDoor

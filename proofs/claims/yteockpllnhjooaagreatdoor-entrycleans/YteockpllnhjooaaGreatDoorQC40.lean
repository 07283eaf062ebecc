/-
  FnEntD.
-/
import Derived.Test.YteockpllnhjooaaGreatDoorQC36
import Derived.Test.YteockpllnhjooaaGreatDoorQC07
import Derived.Test.YteockpllnhjooaaGreatDoorQC37
import Derived.Deep.QuietTactic
namespace Go.Proofs.YteockpllnhjooaaGreatDoor
open Go.RowKit NumMath
open EntMath (E takeT)
set_option maxRecDepth 100000
set_option linter.unusedVariables false
set_option linter.unusedSimpArgs false

/-- A slice of bytes that may be read on. -/
structure Rest (w : World) (a : Option Addr) (zs : List Int) (cap : Nat) : Prop where
  row : Row .u8 w a zs
  len : zs.length ≤ cap
  lim : cap ≤ maxLen
  nil : a = none → cap = 0
theorem Rest.later {w w' : World} {a : Option Addr} {zs : List Int} {cap : Nat} (h : Rest w a zs cap) (hb : Below w.heap.size w w') : Rest w' a zs cap := ⟨h.row.later hb, h.len, h.lim, h.nil⟩
theorem strN_nI {zs : List Int} (h : ∀ c ∈ zs, 0 ≤ c ∧ c ≤ 255) : strOfNums zs = strN (EntMath.nI zs) := by
  have := EntMath.iN_nI h
  conv => lhs; rw [← this]
  unfold strOfNums strN EntMath.iN
  simp

set_option maxHeartbeats 16000000 in
theorem takeText_any (a : Option Addr) (zs : List Int) (cap : Nat) (w : World) (hR : Rest w a zs cap) (hb : ∀ c ∈ zs, 0 ≤ c ∧ c ≤ 255) :
    Calls Tryz.prog 40 #[.slice a zs.length cap] w fun r w' => Below w.heap.size w w' ∧
      (((takeT zs).2.2 = 0 ∧ ∃ ao c, r = .returned (.tuple #[.string (strN (takeT zs).1), .slice ao (takeT zs).2.1.length c, .int .i64 0]) ∧ ∀ W, Rest W a zs cap → Rest W ao (takeT zs).2.1 c) ∨
      (takeT zs = ([], [], 20) ∧ r = .returned (.tuple #[.string ⟨#[]⟩, .slice none 0 0, .int .i64 20])) ∨ (takeT zs = ([], [], 21) ∧ r = .returned (.tuple #[.string ⟨#[]⟩, .slice none 0 0, .int .i64 21]))) := by
  have hT := take_any a zs cap w hR.row hb hR.len hR.lim
  rcases tak_cases zs hb with h | h | ⟨k, v, hk, hkl, hv0, hv1, h, hD⟩
  · have HQ : Hid (takeT zs = ([], [], 20)) := by show _ = _; unfold takeT; rw [h]; rfl
    rw [h] at hT
    unfold takV at hT
    have HT : Hid _ := hT
    clear hT h hR
    go_enter Tryz.func40, Tryz.ntmps40
    go_wp2_with fail
    refine Calls.mono HT.out ?_
    rintro r w1 ⟨rfl, rfl⟩
    go_wp2
    go_ret3
    exact ⟨Below.refl _ _, .inr (.inl ⟨HQ.out, rfl⟩)⟩
  · have HQ : Hid (takeT zs = ([], [], 21)) := by show _ = _; unfold takeT; rw [h]; rfl
    rw [h] at hT
    unfold takV at hT
    have HT : Hid _ := hT
    clear hT h hR
    go_enter Tryz.func40, Tryz.ntmps40
    go_wp2_with fail
    refine Calls.mono HT.out ?_
    rintro r w1 ⟨rfl, rfl⟩
    go_wp2
    go_ret3
    exact ⟨Below.refl _ _, .inr (.inr ⟨HQ.out, rfl⟩)⟩
  · obtain ⟨n, hn⟩ : ∃ n, n = k + 1 := ⟨_, rfl⟩
    obtain ⟨m, hm⟩ : ∃ m : Nat, v = (m : Int) := ⟨v.toNat, by omega⟩
    subst hm
    rw [show (k : Int) + 1 = (n : Int) by omega] at h
    rw [← hn] at hkl hD
    have hnz : zs ≠ [] := by intro e; rw [e] at hkl; simp at hkl; omega
    obtain ⟨b, off, ha, hcell⟩ := hR.row.resolve_left hnz
    subst ha
    have hlen := hR.len
    have hcap := hR.lim
    have hmc : (cap : Int) ≤ 9223372036854775807 := by unfold maxLen at hcap; omega
    obtain ⟨L, hL⟩ : ∃ L, L = zs.length := ⟨_, rfl⟩
    obtain ⟨rl, hrl⟩ : ∃ rl, rl = (zs.drop n).length := ⟨_, rfl⟩
    have hrlL : rl = L - n := by rw [hrl, hL]; simp
    have HRt : Hid (∀ W, Row .u8 W (some ⟨b, off, none⟩) zs → ∀ ao : Option Addr, (¬ cap = n → ao = some ⟨b, off + n, none⟩) → Row .u8 W ao (zs.drop n)) := by
      intro W hW ao h
      have h2 : Row .u8 W (some ⟨b, off, none⟩) (zs.take n ++ zs.drop n) := by rw [List.take_append_drop]; exact hW
      exact Row.rest h2 (m := n) (c := cap) (by rw [List.length_take]; omega) (by rw [List.take_append_drop]; exact hlen) h
    rw [h] at hT
    unfold takV at hT
    rw [← hL] at hT hlen hkl ⊢
    have HT : Hid _ := hT
    have hnL : n ≤ L := hkl
    have hnc : (n : Int) ≤ (cap : Int) := by omega
    have hnL2 : (n : Int) ≤ (L : Int) := by omega
    have hw64 : (m : Int) ≤ 18446744073709551615 := hv1
    by_cases hbig : rl < m
    · have HQ : Hid (takeT zs = ([], [], 20)) := by
        show _ = _; unfold takeT; rw [h]; simp only [Int.toNat_natCast]
        rw [if_neg (by simp), ← hrl, if_pos (by omega)]
      have hbig2 : (L : Int) - (n : Int) < (m : Int) := by omega
      clear hT h hR hD hcell hnz hL hrl hn
      go_enter Tryz.func40, Tryz.ntmps40
      go_wp2_with fail
      refine Calls.mono HT.out ?_
      rintro r w1 ⟨rfl, rfl⟩
      go_wp2
      all_goals
        go_ret3
        exact ⟨Below.refl _ _, .inr (.inl ⟨HQ.out, rfl⟩)⟩
    · have HQ : Hid (takeT zs = (EntMath.nI ((zs.drop n).take m), (zs.drop n).drop m, 0)) := by
        show _ = _; unfold takeT; rw [h]; simp only [Int.toNat_natCast]
        rw [if_neg (by simp), ← hrl, if_neg (by omega)]
      have hbig2 : (m : Int) ≤ (L : Int) - (n : Int) := by omega
      have hmr : m ≤ rl := by omega
      have hmcap : (m : Int) ≤ (cap : Int) - (n : Int) := by omega
      have hsub : ∀ c ∈ (zs.drop n).take m, 0 ≤ c ∧ c ≤ 255 := fun c hc => hb c (List.mem_of_mem_drop (List.mem_of_mem_take hc))
      have htl : ((zs.drop n).take m).length = m := by rw [List.length_take]; omega
      have hdl : ((zs.drop n).drop m).length = rl - m := by rw [List.length_drop, hrl]
      have HCV : Hid (∀ (ao : Option Addr) (j : Nat), (¬ cap = n → ao = some ⟨b, off + n, none⟩) → (convert 48 9 (.slice ao m (cap - n))).run Tryz.prog (w.drewN j) = .ok (.string (strN (EntMath.nI ((zs.drop n).take m)))) (w.drewN j)) := by
        intro ao j h
        have h1 : Row .u8 (w.drewN j) ao ((zs.drop n).take m) := Row.later ((HRt.out w hR.row ao h).take m) (Below.drewN (Below.refl _ _) _)
        have := row_string (cap := cap - n) h1
        rw [htl, strN_nI hsub] at this
        exact this
      have HRs : Hid (∀ (b2 o2 : Nat) (W : World), (¬ cap = n → (some ⟨b2, o2, none⟩ : Option Addr) = some ⟨b, off + n, none⟩) → Row .u8 W (some ⟨b, off, none⟩) zs → ∀ ao : Option Addr, (¬ cap - n = m → ao = some ⟨b2, o2 + m, none⟩) → Row .u8 W ao ((zs.drop n).drop m)) := by
        intro b2 o2 W h hW ao h2
        have h1 : Row .u8 W (some ⟨b2, o2, none⟩) ((zs.drop n).take m ++ (zs.drop n).drop m) := by rw [List.take_append_drop]; exact HRt.out _ hW _ h
        exact Row.rest h1 (m := m) (c := cap - n) htl (by rw [List.take_append_drop, ← hrl]; omega) h2
      have HQl : Hid (((zs.drop n).drop m).length = L - n - m) := by show _ = _; rw [hdl, hrlL]
      have hcl : maxLen = maxLen := rfl
      have hLn : ((L - n : Nat) : Int) = (L : Int) - (n : Int) := by omega
      have hcn2 : ((cap - n : Nat) : Int) = (cap : Int) - (n : Int) := by omega
      have hm1 : (m : Int) ≤ ((L - n : Nat) : Int) := by omega
      have hm2 : (m : Int) ≤ ((cap - n : Nat) : Int) := by omega
      have hm3 : ((L - n : Nat) : Int) ≤ ((cap - n : Nat) : Int) := by omega
      have hm0 : m ≤ L - n := by omega
      clear hT h hR hD hcell hnz hL hn hLn hcn2 hrlL hrl hmr hbig htl hdl hcl
      by_cases hcn : cap = n
      · have hcv := fun j => HCV.out (some ⟨b, off, none⟩) j (fun h => absurd hcn h)
        have HRs2 : Hid _ := fun j => HRs.out b off j (fun h => absurd hcn h)
        clear HCV HRs
        obtain ⟨C, hC⟩ : ∃ C, C = cap - n := ⟨_, rfl⟩
        obtain ⟨R, hR⟩ : ∃ R, R = L - n := ⟨_, rfl⟩
        have hC0 : C = 0 := by omega
        have hR0 : R = 0 := by omega
        have hm00 : m = 0 := by omega
        have hLn : L = n := by omega
        subst hLn
        subst hcn
        subst hm00
        rw [← hC] at hcv HRs2
        rw [← hR] at HQl
        subst hC0
        subst hR0
        have HCAP : Hid _ := hcap
        clear hC hR hb hsub hnL hnc hnL2 hbig2 hmcap hv0 hv1 hkl hk hm1 hm2 hm3 hm0 hlen hcap hw64
        go_enter Tryz.func40, Tryz.ntmps40
        go_wp2_with fail
        refine Calls.mono HT.out ?_
        rintro r w1 ⟨rfl, rfl⟩
        go_wp2
        have hs1 : ∀ w, (Instr.sliceAt 48 (.slice (some ⟨b, off, none⟩) 0 0) none (some (.int .u64 0)) none).run Tryz.prog w = .ok (.slice (some ⟨b, off, none⟩) 0 0) w := by
          intro w
          go_simp
        have hs2 : ∀ w, (Instr.sliceAt 48 (.slice (some ⟨b, off, none⟩) 0 0) (some (.int .u64 0)) none none).run Tryz.prog w = .ok (.slice (some ⟨b, off, none⟩) 0 0) w := by
          intro w
          go_simp
        go_quiet (fail)
        go_wp2
        go_ret3
        refine ⟨Below.drewN (Below.refl _ _) _, .inl ⟨by rw [HQ.out], some ⟨b, off, none⟩, 0, ?_, ?_⟩⟩
        · rw [HQ.out, HQl.out]; rfl
        · rw [HQ.out]
          intro W hW
          exact ⟨HRs2.out W hW.row _ (fun h => absurd trivial h), by have := HQl.out; show ((zs.drop cap).drop 0).length ≤ 0; omega, by unfold maxLen; omega, fun h => by cases h⟩
      · have hcv := fun j => HCV.out (some ⟨b, off + n, none⟩) j (fun _ => rfl)
        have HRs2 : Hid _ := fun j => HRs.out b (off + n) j (fun _ => rfl)
        clear HCV HRs
        go_enter Tryz.func40, Tryz.ntmps40
        go_wp2_with fail
        refine Calls.mono HT.out ?_
        rintro r w1 ⟨rfl, rfl⟩
        go_wp2
        clear hb hsub hmc hnL hnc hnL2 hbig2 hmcap hv0 hv1 hkl hk
        have HCC : Hid (cap - n ≤ maxLen ∧ L - n ≤ cap - n) := ⟨by omega, by omega⟩
        have hcc := HCC.out
        clear HCC hcap hlen hcn
        generalize L - n = R at *
        generalize cap - n = C at *
        generalize off + n = o2 at *
        obtain ⟨hcap, hlen⟩ := hcc
        have HCC : True := trivial
        have hs1 : ∀ w, (Instr.sliceAt 48 (.slice (some ⟨b, o2, none⟩) R C) none (some (.int .u64 (m : Int))) none).run Tryz.prog w = .ok (.slice (some ⟨b, o2, none⟩) m C) w := by
          intro w
          go_simp
        have hs2 : ∀ w, (Instr.sliceAt 48 (.slice (some ⟨b, o2, none⟩) R C) (some (.int .u64 (m : Int))) none none).run Tryz.prog w = .ok (.slice (if C = m then some ⟨b, o2, none⟩ else some ⟨b, o2 + m, none⟩) (R - m) (C - m)) w := by
          intro w
          go_simp
        generalize hao : (if C = m then (some ⟨b, o2, none⟩ : Option Addr) else some ⟨b, o2 + m, none⟩) = ao at hs2
        have HAO : Hid _ := hao
        have HM : Hid (m ≤ C ∧ C ≤ maxLen ∧ R ≤ C) := ⟨by omega, by omega, by omega⟩
        clear hao hm1 hm2 hm3 hm0 hcap hlen HCC
        go_quiet (fail)
        go_wp2
        go_ret3
        refine ⟨Below.drewN (Below.refl _ _) _, .inl ⟨by rw [HQ.out], ao, C - m, ?_, ?_⟩⟩
        · rw [HQ.out, HQl.out]; rfl
        · rw [HQ.out]
          intro W hW
          obtain ⟨hq1, hq2, hq3⟩ := HM.out
          have hlq := HQl.out
          refine ⟨HRs2.out W hW.row ao (fun h => by rw [← HAO.out, if_neg h]), ?_, ?_, ?_⟩
          · show ((zs.drop n).drop m).length ≤ C - m
            rw [hlq]; omega
          · omega
          · intro h
            exfalso
            have := HAO.out
            rw [h] at this
            split at this <;> cases this
end Go.Proofs.YteockpllnhjooaaGreatDoor

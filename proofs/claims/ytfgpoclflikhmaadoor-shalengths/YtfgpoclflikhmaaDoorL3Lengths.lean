/-
  Walk of newsreellaw3.ShaLengths.
-/
import Derived.Test.YtfgpoclflikhmaaDoorL3Known
import Derived.Test.YtfgpoclflikhmaaDoorFnRefDigest
namespace Go.Proofs.YtfgpoclflikhmaaDoor
open Go.RowKit NumMath
set_option maxRecDepth 100000
set_option linter.unusedVariables false
set_option linter.unusedSimpArgs false
attribute [-simp] Tryd.isAgg49 Tryd.zeroValue49 Tryd.isAgg26 Tryd.zeroValue26 Tryd.isAgg51

theorem Tabs3.later {w w' : World} {B : Nat} (h : Tabs3 w) (hb : Below B w w') (hB : 2 < B) : Tabs3 w' := ⟨h.1.later hb hB, RefTab.later h.2 hb hB⟩

set_option maxHeartbeats 4000000 in
theorem shaLengths_walk (n0 n1 : Int) (W : World) (ht : Tabs3 W) (w0 : (Lit.int .u8 n0).wf = true) (w1 : (Lit.int .u8 n1).wf = true) :
    Calls Tryd.prog 5 #[.int .u8 n0, .int .u8 n1] W fun e W' => e = .returned (.bool true) ∧ Below W.heap.size W W' := by
  obtain ⟨i0, hi, hz0, hz1, hz2⟩ := info_parts Tryd.info5
  obtain ⟨c, rfl⟩ : ∃ m : Nat, n0 = m := ⟨n0.toNat, by have := bounds_u8 w0; omega⟩
  obtain ⟨n, rfl⟩ : ∃ m : Nat, n1 = m := ⟨n1.toNat, by have := bounds_u8 w1; omega⟩
  have hcl : c ≤ 255 := by have := bounds_u8 w0; omega
  have hnl : n ≤ 255 := by have := bounds_u8 w1; omega
  have HT : Hid _ := ht
  have htl := ht.1.lt
  clear w0 w1 ht
  go_enter Tryd.func5, Tryd.ntmps5
  go_wp2_with fail
  refine Calls.mono (known3_any W HT.out.1) ?_
  rintro e w1 ⟨rfl, hB1⟩
  have HB1 : Hid _ := hB1
  clear hB1
  go_wp2_with fail
  go_loopw [5, 6] (fun x i wr => ∃ (k : Nat) (R : List Int), k ≤ n ∧ i = .int .i64 k ∧ R.length = k ∧ (∀ y ∈ R, 0 ≤ y ∧ y ≤ 255) ∧ wr.ownsRow w1.heap.size 5 1 x k (R.map (Value.int .u8)) ∧ Below w1.heap.size w1 wr) (fun _ i _ => n - (intOf i).toNat)
  case atStart => exact ⟨0, [], by omega, rfl, rfl, by simp, World.ownsRow_nil _ _ _ _, Below.refl _ _⟩
  case round =>
    obtain ⟨k, R, hk, rfl, hRl, hRb, hown, hB⟩ := hrel
    have HRl : Hid _ := hRl
    have HRb : Hid _ := hRb
    clear hRl hRb
    by_cases hlt : k < n
    · obtain ⟨k2, hk2, hk2l⟩ : ∃ q : Nat, (k : Int) * (k : Int) = (q : Int) ∧ q ≤ 65025 := ⟨k * k, by simp, by have h : k ≤ 255 := (by omega); exact Nat.mul_le_mul h h⟩
      obtain ⟨x, hx, hxl⟩ : ∃ x : Nat, ((c : Int) + (k2 : Int) % 256) % 256 = (x : Int) ∧ x ≤ 255 := ⟨(c + k2 % 256) % 256, by simp, by omega⟩
      have hd : decide ((k : Int) < (n : Int)) = true := by simp; omega
      go_wp2_with (at_builtin; refine wpList_append_own_any rfl (.tmp 15) (.tmp 22) 24 rfl w1.heap.size 5 i0 (.int .u8 0) 1 1 Tryd.underlying24 hi hz0 hz1 hz2 rfl (by decide) _ k _ rfl (hown.alloc _) (some ⟨wr.heap.size, 0, none⟩) 1 1 ([(x : Int)].map (Value.int .u8)) rfl rfl (by intro h; cases h) (lit_row _ .u8 [(x : Int)] 5 _ rfl).news (ints_oneCell _ _) (by unfold maxLen; omega) (by omega) (by simp; have := hB.size; omega) ?_; intro v4 w4 hown4 hgrow4)
      have hB4 := (hB.alloc hB.size _).grown hgrow4 (by simp; have := hB.size; omega) (own_ge hown)
      go_roundw
      case rel => exact ⟨k + 1, R ++ [(x : Int)], by omega, by go_num, by simp [HRl.out], bytes_append HRb.out (by simp; omega), by rw [List.map_append]; exact hown4, hB4⟩
      case measure => simp [intOf]; omega
    · have hkn : k = n := by omega
      subst hkn
      obtain ⟨a, cp, hv, hrow, hc, hm, hnn⟩ := own_shape hown
      subst hv
      rw [HRl.out] at hc
      have hd : decide ((k : Int) < (k : Int)) = false := by simp
      have hBw : Below W.heap.size W wr := HB1.out.trans (hB.mono HB1.out.size)
      have HRW : Hid _ := hrow
      have HBW : Hid _ := hBw
      have HC : Hid (R.length ≤ cp) := by rw [HRl.out]; exact hc
      have HM : Hid _ := hm
      have HNN : Hid _ := hnn
      have hkl := HRl.out
      have HPK : Hid (∀ w', Below W.heap.size W w' → Below wr.heap.size wr w' → (Part.mk a R cp).ok w') := fun w' _ h => ⟨Row.later HRW.out h, HRb.out, HC.out, HM.out⟩
      have HSM : Hid (∀ w' g cc, Below W.heap.size W w' → Below wr.heap.size wr w' → ∀ ps : List Part, (∀ p ∈ ps, p = ⟨a, R, cp⟩) → ps.length ≤ 2 → g = w'.heap.size → cc = ps.length → Calls Tryd.prog 9 #[.slice (some ⟨g, 0, none⟩) cc cc] (w'.alloc (.cells (ps.map Part.val).toArray 24)) fun e w2 => e = .returned (.agg (u8v (ShaMath.digest (nats (allB ps)))).toArray) ∧ Below (w'.alloc (.cells (ps.map Part.val).toArray 24)).heap.size (w'.alloc (.cells (ps.map Part.val).toArray 24)) w2) := by
        intro w' g cc hb1 hb2 ps hps hl2 hg hcc
        rw [hcc]
        refine shaSum_any (some ⟨g, 0, none⟩) ps ps.length _ (HT.out.1.later (hb1.alloc hb1.size _) htl) (lit_parts w' ps 24 g hg (fun p hp => by rw [hps p hp]; exact HPK.out w' hb1 hb2)) (Nat.le_refl _) (by unfold maxLen; omega) ?_
        have hlen : (allB ps).length ≤ ps.length * 255 := by
          clear hl2 hg hcc
          induction ps with
          | nil => simp [allB]
          | cons p ps ih =>
            have h1 := ih (fun q hq => hps q (by simp [hq]))
            have h2 := hps p (by simp)
            unfold allB at h1 ⊢
            rw [List.flatMap_cons, List.length_append, List.length_cons, h2]
            show R.length + _ ≤ _
            rw [HRl.out]
            omega
        omega
      have HDG : Hid (∀ w' g cc, Below W.heap.size W w' → Below wr.heap.size wr w' → ∀ ps : List Part, (∀ p ∈ ps, p = ⟨a, R, cp⟩) → ps.length ≤ 2 → g = w'.heap.size → cc = ps.length → Calls Tryd.prog 10 #[.slice (some ⟨g, 0, none⟩) cc cc] (w'.alloc (.cells (ps.map Part.val).toArray 24)) fun e w2 => e = .returned (.agg (u8v (ShaMath.digest (nats (allB ps)))).toArray) ∧ Below (w'.alloc (.cells (ps.map Part.val).toArray 24)).heap.size (w'.alloc (.cells (ps.map Part.val).toArray 24)) w2) := by
        intro w' g cc hb1 hb2 ps hps hl2 hg hcc
        rw [hcc]
        refine digest_any (some ⟨g, 0, none⟩) ps ps.length _ (RefTab.later HT.out.2 (hb1.alloc hb1.size _) htl) (by simp; have := hb1.size; omega) (lit_parts w' ps 24 g hg (fun p hp => by rw [hps p hp]; exact HPK.out w' hb1 hb2)) (fun p hp => by rw [hps p hp]; exact HNN.out) (Nat.le_refl _) (by unfold maxLen; omega) ?_
        have hlen : (allB ps).length ≤ ps.length * 255 := by
          clear hl2 hg hcc
          induction ps with
          | nil => simp [allB]
          | cons p ps ih =>
            have h1 := ih (fun q hq => hps q (by simp [hq]))
            have h2 := hps p (by simp)
            unfold allB at h1 ⊢
            rw [List.flatMap_cons, List.length_append, List.length_cons, h2]
            show R.length + _ ≤ _
            rw [HRl.out]
            omega
        omega
      have heq : ∀ m w, (Op.equalIn 10000 26 (.agg (u8v (ShaMath.digest m)).toArray) (.agg (u8v (ShaMath.digest m)).toArray)).run Tryd.prog w = .ok true w := fun m w => eq_same _ (digest_len m) w
      have heq1 := heq (nats (allB [⟨a, R, cp⟩]))
      have heq2 := heq (nats (allB [⟨a, R, cp⟩, ⟨a, R, cp⟩]))
      have s1 := HRl.out
      have HS1 : Hid (∀ w', Below W.heap.size W w' → Below wr.heap.size wr w' → Calls Tryd.prog 9 #[.slice (some ⟨w'.heap.size, 0, none⟩) 1 1] (w'.alloc (.cells #[.slice a k cp] 24)) fun e w2 => e = .returned (.agg (u8v (ShaMath.digest (nats (allB [⟨a, R, cp⟩])))).toArray) ∧ Below (w'.alloc (.cells #[.slice a k cp] 24)).heap.size (w'.alloc (.cells #[.slice a k cp] 24)) w2) := by
        intro w' hb1 hb2
        have := HSM.out w' w'.heap.size 1 hb1 hb2 [⟨a, R, cp⟩] (by simp) (by simp) rfl rfl
        simpa [Part.val, s1] using this
      have HD1 : Hid (∀ w', Below W.heap.size W w' → Below wr.heap.size wr w' → Calls Tryd.prog 10 #[.slice (some ⟨w'.heap.size, 0, none⟩) 1 1] (w'.alloc (.cells #[.slice a k cp] 24)) fun e w2 => e = .returned (.agg (u8v (ShaMath.digest (nats (allB [⟨a, R, cp⟩])))).toArray) ∧ Below (w'.alloc (.cells #[.slice a k cp] 24)).heap.size (w'.alloc (.cells #[.slice a k cp] 24)) w2) := by
        intro w' hb1 hb2
        have := HDG.out w' w'.heap.size 1 hb1 hb2 [⟨a, R, cp⟩] (by simp) (by simp) rfl rfl
        simpa [Part.val, s1] using this
      have HS2 : Hid (∀ w', Below W.heap.size W w' → Below wr.heap.size wr w' → Calls Tryd.prog 9 #[.slice (some ⟨w'.heap.size, 0, none⟩) 2 2] (w'.alloc (.cells #[.slice a k cp, .slice a k cp] 24)) fun e w2 => e = .returned (.agg (u8v (ShaMath.digest (nats (allB [⟨a, R, cp⟩, ⟨a, R, cp⟩])))).toArray) ∧ Below (w'.alloc (.cells #[.slice a k cp, .slice a k cp] 24)).heap.size (w'.alloc (.cells #[.slice a k cp, .slice a k cp] 24)) w2) := by
        intro w' hb1 hb2
        have := HSM.out w' w'.heap.size 2 hb1 hb2 [⟨a, R, cp⟩, ⟨a, R, cp⟩] (by simp) (by simp) rfl rfl
        simpa [Part.val, s1] using this
      have HD2 : Hid (∀ w', Below W.heap.size W w' → Below wr.heap.size wr w' → Calls Tryd.prog 10 #[.slice (some ⟨w'.heap.size, 0, none⟩) 2 2] (w'.alloc (.cells #[.slice a k cp, .slice a k cp] 24)) fun e w2 => e = .returned (.agg (u8v (ShaMath.digest (nats (allB [⟨a, R, cp⟩, ⟨a, R, cp⟩])))).toArray) ∧ Below (w'.alloc (.cells #[.slice a k cp, .slice a k cp] 24)).heap.size (w'.alloc (.cells #[.slice a k cp, .slice a k cp] 24)) w2) := by
        intro w' hb1 hb2
        have := HDG.out w' w'.heap.size 2 hb1 hb2 [⟨a, R, cp⟩, ⟨a, R, cp⟩] (by simp) (by simp) rfl rfl
        simpa [Part.val, s1] using this
      have step : ∀ (w' w2 : World) (o : Obj), Below W.heap.size W w' → Below wr.heap.size wr w' → Below (w'.alloc o).heap.size (w'.alloc o) w2 → Below W.heap.size W w2 ∧ Below wr.heap.size wr w2 := by
        intro w' w2 o h1 h2 h3
        have hs : (w'.alloc o).heap.size = w'.heap.size + 1 := by simp
        exact ⟨(h1.alloc h1.size o).trans (h3.mono (by have := h1.size; omega)), (h2.alloc h2.size o).trans (h3.mono (by have := h2.size; omega))⟩
      have HST : Hid _ := step
      have HE1 : Hid _ := heq1
      have HE2 : Hid _ := heq2
      rw [HRl.out]
      generalize u8v (ShaMath.digest (nats (allB [⟨a, R, cp⟩]))) = D1 at *
      generalize u8v (ShaMath.digest (nats (allB [⟨a, R, cp⟩, ⟨a, R, cp⟩]))) = D2 at *
      clear heq hown hrow s1 hkl step HSM HDG HPK
      go_wp2_with fail
      refine Calls.mono (HS1.out _ HBW.out (Below.refl _ _)) ?_
      rintro e wa ⟨rfl, hba⟩
      obtain ⟨ha1, ha2⟩ := HST.out _ _ _ HBW.out (Below.refl _ _) hba
      clear hba
      go_wp2_with fail
      refine Calls.mono (HD1.out _ ha1 ha2) ?_
      rintro e wb ⟨rfl, hbb⟩
      obtain ⟨hb1, hb2⟩ := HST.out _ _ _ ha1 ha2 hbb
      clear hbb ha1 ha2
      go_wp2_with fail
      refine Calls.mono (HS2.out _ hb1 hb2) ?_
      rintro e wc ⟨rfl, hbc⟩
      obtain ⟨hc1, hc2⟩ := HST.out _ _ _ hb1 hb2 hbc
      clear hbc hb1 hb2
      go_wp2_with fail
      refine Calls.mono (HD2.out _ hc1 hc2) ?_
      rintro e wd ⟨rfl, hbd⟩
      obtain ⟨hd1, hd2⟩ := HST.out _ _ _ hc1 hc2 hbd
      clear hbd hc1 hc2
      go_wp2
      go_ret
      exact ⟨rfl, hd1⟩

end Go.Proofs.YtfgpoclflikhmaaDoor

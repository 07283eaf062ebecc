/-
  Walk of newsreellaw3.ShaParts.
-/
import Derived.Test.YtfgpoclflikhmaaDoorL3Sums
namespace Go.Proofs.YtfgpoclflikhmaaDoor
open Go.RowKit NumMath
set_option maxRecDepth 100000
set_option linter.unusedVariables false
set_option linter.unusedSimpArgs false
attribute [-simp] Tryd.isAgg49 Tryd.zeroValue49 Tryd.isAgg26 Tryd.zeroValue26 Tryd.isAgg51

/-- All that was written, each part cut at 150. -/
def cutAll (ps : List Part) (k : Nat) : List Int := (ps.take k).flatMap fun p => p.zs.take 150
theorem cutAll_step (ps : List Part) (k : Nat) (h : k < ps.length) : cutAll ps (k + 1) = cutAll ps k ++ (ps[k]?.getD noPart).zs.take 150 := by
  unfold cutAll
  rw [List.take_succ_eq_append_getElem h, List.flatMap_append, show ps[k]?.getD noPart = ps[k] by simp [h]]
  simp only [List.flatMap_cons, List.flatMap_nil, List.append_nil]
theorem cutAll_len (ps : List Part) : ∀ k, (cutAll ps k).length ≤ 150 * k
  | 0 => by simp [cutAll]
  | k + 1 => by
    by_cases h : k < ps.length
    · rw [cutAll_step ps k h, List.length_append, List.length_take]
      have := cutAll_len ps k
      omega
    · have h1 : cutAll ps (k + 1) = cutAll ps k := by unfold cutAll; rw [List.take_of_length_le (by omega), List.take_of_length_le (by omega)]
      rw [h1]; have := cutAll_len ps k; omega
theorem cutAll_byte {w : World} {ps : List Part} (h : ∀ p ∈ ps, p.ok w) (k : Nat) : ∀ c ∈ cutAll ps k, 0 ≤ c ∧ c ≤ 255 := by
  intro c hc
  obtain ⟨p, hp, hcp⟩ := List.mem_flatMap.1 hc
  exact (h p (List.mem_of_mem_take hp)).2.1 c (List.mem_of_mem_take hcp)
theorem HashAt.later {w w' : World} {g B : Nat} {m : List Nat} (h : HashAt w g m) (hb : Below B w w') (hg : g < B) : HashAt w' g m := by
  obtain ⟨blk, h1, h2, h3, h4⟩ := h
  exact ⟨blk, h1, h2, h3, h4.later hb hg⟩
theorem HashAt.lt {w : World} {g : Nat} {m : List Nat} (h : HashAt w g m) : g < w.heap.size := by obtain ⟨_, _, _, _, h4⟩ := h; exact h4.lt
theorem HashAt.grown {w w' : World} {g : Nat} {m : List Nat} {row : Option Nat} (h : HashAt w g m) (hg : w.grownBy w' row) (hr : some g ≠ row) : HashAt w' g m := by
  obtain ⟨blk, h1, h2, h3, h4⟩ := h
  refine ⟨blk, h1, h2, h3, ?_⟩
  unfold Arr
  rw [hg.block g h4.lt hr]; exact h4
theorem Row.blockLt {k : IntKind} {w : World} {a : Option Addr} {zs : List Int} (h : Row k w a zs) (h0 : 0 < zs.length) : ∀ ad, a = some ad → ad.block < w.heap.size := by
  intro ad had
  rcases h with h | ⟨b, off, ha, hc⟩
  · rw [h] at h0; simp at h0
  · rw [had] at ha; injection ha with ha; subst ha
    exact World.block_lt_of_cell? w _ (hc 0 h0)

theorem own_ne {w : World} {base n : Nat} {v : Value} {xs : List Value} (h : w.ownsRow base 5 1 v n xs) {g : Nat} (hg : g < base) : v.ownBlock = none ∨ v.ownBlock ≠ some g := by
  right
  intro e
  have := own_ge h g e
  omega

set_option maxHeartbeats 8000000 in
theorem shaParts_walk (a : Option Addr) (ps : List Part) (cap : Nat) (a1 : Option Addr) (zs : List Int) (cap1 : Nat) (W : World) (ht : Tabs3 W) (hr : Parts W a ps) (hc : ps.length ≤ cap) (hm : cap ≤ maxLen) (hq : ∀ p ∈ ps, p.a = none → p.cap = 0)
    (hr1 : Row .u8 W a1 zs) (hc1 : zs.length ≤ cap1) (hm1 : cap1 ≤ maxLen) (hn1 : a1 = none → cap1 = 0) (hw1 : ∀ n ∈ zs, (Lit.int .u8 n).wf = true) (hs1 : cap1 * 1 ≤ 140737488351232) :
    Calls Tryd.prog 4 #[.slice a ps.length cap, .slice a1 zs.length cap1] W fun e W' => e = .returned (.bool true) ∧ Below W.heap.size W W' := by
  obtain ⟨i0, hi, hz0, hz1, hz2⟩ := info_parts Tryd.info5
  obtain ⟨z26, i26⟩ := zero_of_info zero26
  obtain ⟨Z, hZ⟩ : ∃ Z, Z = u8v (List.replicate 32 0) := ⟨_, rfl⟩
  rw [← hZ] at z26
  have HZl : Hid (Z.length = 32) := by show _ = _; rw [hZ, u8v_len]; simp
  obtain ⟨n, hn⟩ : ∃ n, n = ps.length := ⟨_, rfl⟩
  obtain ⟨l1, hl1⟩ : ∃ n, n = zs.length := ⟨_, rfl⟩
  have HM1 : Hid _ := hm1
  have HC1 : Hid (zs.length ≤ cap1) := hc1
  unfold maxLen at hm hm1
  rw [← hn] at hc ⊢
  rw [← hl1] at hc1 ⊢
  have HN : Hid _ := hn
  have HL1 : Hid _ := hl1
  have HT : Hid _ := ht
  have HR : Hid _ := hr
  have HQ : Hid _ := hq
  have HR1 : Hid _ := hr1
  have HZB : Hid _ := u8s hw1
  have htl := ht.1.lt
  clear hn ht hr hq hr1 hw1 hn1 hl1 i26 hZ hs1
  go_enter Tryd.func4, Tryd.ntmps4
  go_wp2_with fail
  refine Calls.mono (known3_any W HT.out.1) ?_
  rintro e w1 ⟨rfl, hB1⟩
  have HB1 : Hid _ := hB1
  clear hB1
  by_cases h12 : n ≤ 12
  · by_cases h300 : l1 ≤ 300
    · have e1 : ¬ (12 : Int) < (n : Int) := by omega
      have e2 : ¬ (300 : Int) < (l1 : Int) := by omega
      have e1' : (n : Int) ≤ 12 := by omega
      have e2' : (l1 : Int) ≤ 300 := by omega
      go_wp2_with fail
      refine Calls.mono (new_any w1 (HT.out.1.later HB1.out htl)) ?_
      rintro e w2 ⟨rfl, hh2, hB2⟩
      have hB2W : Below W.heap.size W w2 := HB1.out.trans (hB2.mono HB1.out.size)
      go_wp2_with fail
      refine Calls.mono (new_any w2 (HT.out.1.later hB2W htl)) ?_
      rintro e w3 ⟨rfl, hh3, hB3⟩
      obtain ⟨gh, hgh⟩ : ∃ g, g = w1.heap.size := ⟨_, rfl⟩
      obtain ⟨go, hgo⟩ : ∃ g, g = w2.heap.size := ⟨_, rfl⟩
      rw [← hgh] at hh2 ⊢
      rw [← hgo] at hh3 ⊢
      have hgw : W.heap.size ≤ gh ∧ gh < go := by have := HB1.out.size; have := hh2.lt; omega
      have HHh : Hid (HashAt w3 gh []) := hh2.later hB3 hh2.lt
      have HHo : Hid (HashAt w3 go []) := hh3
      have hgo3 : go < w3.heap.size := hh3.lt
      have HB3 : Hid (Below W.heap.size W w3) := hB2W.trans (hB3.mono hB2W.size)
      have HGW : Hid _ := hgw
      clear hgh hgo hh2 hh3 hB2 hB3 hB2W
      go_wp2_with fail
      go_loopw [7, 8] (fun x i wr => ∃ (k m : Nat) (mo : List Nat), k ≤ n ∧ i = .int .i64 k ∧ m = (cutAll ps k).length ∧ wr.ownsRow w3.heap.size 5 1 x m ((cutAll ps k).map (Value.int .u8)) ∧ HashAt wr gh (nats (cutAll ps k)) ∧ HashAt wr go mo ∧ mo.length ≤ 300 * k ∧ Below W.heap.size W wr ∧ w3.heap.size ≤ wr.heap.size) (fun _ i _ => n - (intOf i).toNat)
      case atStart => exact ⟨0, 0, [], by omega, rfl, by simp [cutAll], by simpa [cutAll] using World.ownsRow_nil _ _ _ _, by simpa [cutAll, nats] using HHh.out, HHo.out, by simp, HB3.out, Nat.le_refl _⟩
      case round =>
        clear HHh HHo HB3
        obtain ⟨k, m, mo, hk, rfl, hm0, hown, hhh, hho, hmo, hBw, hsz⟩ := hrel
        have hml : m ≤ 150 * k := by rw [hm0]; exact cutAll_len ps k
        have HM0 : Hid _ := hm0
        have hPW : Parts wr a ps := Parts.later HR.out hBw
        clear hm0
        by_cases hlt : k < n
        · have hkl : k < ps.length := by have := HN.out; omega
          obtain ⟨p, hp⟩ : ∃ p, p = ps[k]?.getD noPart := ⟨_, rfl⟩
          have hpm : p ∈ ps := by rw [hp]; exact part_mem ps k hkl
          have HNX : Hid (cutAll ps (k + 1) = cutAll ps k ++ p.zs.take 150) := by rw [hp]; exact cutAll_step ps k hkl
          have hokW := HR.out.2 p hpm
          have hnilp := HQ.out p hpm
          obtain ⟨b, off, ha, hcell⟩ : ∃ b off, a = some ⟨b, off, none⟩ ∧ ∀ i, i < ps.length → wr.cell? ⟨b, off + i, none⟩ = some (ps[i]?.getD noPart).val := by
            rcases hPW.1 with h | h
            · rw [h] at hkl; simp at hkl
            · exact h
          have hcw : wr.cell? ⟨b, off + k, none⟩ = some (.slice p.a p.zs.length p.cap) := by rw [hcell k hkl, ← hp]; rfl
          subst ha
          obtain ⟨q, hq⟩ : ∃ q, q = min p.zs.length 150 := ⟨_, rfl⟩
          have hPl : (p.zs.take 150).length = q := by rw [List.length_take, hq]; omega
          have hpc := hokW.2.2.1
          have hpcm := hokW.2.2.2
          have hrowW : Row .u8 W p.a (p.zs.take 150) := hokW.1.take 150
          have hPb : ∀ c ∈ p.zs.take 150, 0 ≤ c ∧ c ≤ 255 := fun c hc => hokW.2.1 c (List.mem_of_mem_take hc)
          have hnone : p.a = none → q = 0 ∧ p.cap = 0 := fun h => by have := hnilp h; omega
          have HW1 : Hid (∀ wd, Below W.heap.size W wd → HashAt wd gh (nats (cutAll ps k)) → Calls Tryd.prog 12 #[.pointer (some ⟨gh, 0, none⟩), .slice p.a q p.cap] wd fun e w' => e = .returned (.tuple #[]) ∧ HashAt w' gh (nats (cutAll ps (k + 1))) ∧ wd.grownBy w' (some gh)) := by
            intro wd hB hh
            have := write_any gh (nats (cutAll ps k)) p.a (p.zs.take 150) p.cap wd (HT.out.1.later hB htl) (by have := HGW.out; omega) hh (Row.later hrowW hB) (by
              intro h0 ad had
              have := Row.blockLt hrowW h0 ad had
              have := HGW.out; omega) hPb (by omega) hpcm (by simp [nats]; have := HM0.out; omega)
            rw [hPl, ← nats_append, ← HNX.out] at this
            exact this
          have HW2 : Hid (∀ wd, Below W.heap.size W wd → HashAt wd go mo → Calls Tryd.prog 12 #[.pointer (some ⟨go, 0, none⟩), .slice a1 l1 cap1] wd fun e w' => e = .returned (.tuple #[]) ∧ HashAt w' go (mo ++ nats zs) ∧ wd.grownBy w' (some go)) := by
            intro wd hB hh
            have := write_any go mo a1 zs cap1 wd (HT.out.1.later hB htl) (by have := HGW.out; omega) hh (Row.later HR1.out hB) (by
              intro h0 ad had
              have := Row.blockLt HR1.out h0 ad had
              have := HGW.out; omega) HZB.out HC1.out HM1.out (by have := HL1.out; omega)
            rw [← HL1.out] at this
            exact this
          have hrow2 : ∀ wd, Below W.heap.size W wd → Row .u8 wd p.a (p.zs.take 150) := fun wd hB => Row.later hrowW hB
          have HRW2 : Hid _ := hrow2
          have HNO : Hid _ := hnone
          have HPL : Hid _ := hPl
          have hpcn : q ≤ p.cap := by omega
          have hq150 : q ≤ 150 := by omega
          have hpcm' : p.cap ≤ 9223372036854775807 := by unfold maxLen at hpcm; omega
          have hkI : (k : Int) < (n : Int) := by omega
          generalize hPZ : p.zs.take 150 = PZ at *
          have hcase : (p.zs.length ≤ 150 ∧ q = p.zs.length) ∨ (150 < p.zs.length ∧ q = 150) := by omega
          generalize hpl : p.zs.length = pl at *
          generalize p.a = pa at *
          generalize p.cap = pc at *
          have HOW : Hid _ := hown
          have HHH : Hid _ := hhh
          have HHO : Hid _ := hho
          have HBW : Hid _ := hBw
          clear hp hpm hokW hnilp hcell hq hPl hpc hpcm hrowW hPb hnone hrow2 hPZ hpl hPW hown hhh hho hBw hkl
          rcases hcase with ⟨hc1', hc2'⟩ | ⟨hc1', hc2'⟩
          · have hI : (pl : Int) ≤ 150 := by omega
            have hJn : ¬ (150 : Int) < (pl : Int) := by omega
            have hpcI : (pl : Int) ≤ (pc : Int) := by omega
            have hplI : (0 : Int) ≤ (pl : Int) := by omega
            subst hc2'
            go_wp2_with fail
            refine wp_region_held_drew (S := fun w' => w'.cell? ⟨b, off + k, none⟩ = some (.slice pa q pc)) rfl hcw (fun hS => ?_)
            have hJe : ((150 : Int) < (q : Int)) = False := eq_false (by omega)
            refine wpAnyH_take (i := 0) (v := ?_) rfl (by kernel_rfl) (by kernel_rfl) (by kernel_rfl) (fun _ _ _ h => h) (Or.inl ⟨by rfl, ?_⟩) hS ?_
            rotate_left 1
            · intro w hSw; (try dsimp only at hSw); go_simp <;> with_reducible rfl
            try simp only [List.getElem_toArray, List.getElem_cons_zero, List.getElem_cons_succ, Act.put, List.setIfInBounds_toArray, List.set_cons_zero, List.set_cons_succ]
            refine wpAnyH_take (i := 1) (v := ?_) rfl (by kernel_rfl) (by kernel_rfl) (by kernel_rfl) (fun _ _ _ h => h) (Or.inl ⟨by rfl, ?_⟩) hS ?_
            rotate_left 1
            · intro w hSw; (try dsimp only at hSw); go_simp <;> with_reducible rfl
            try simp only [List.getElem_toArray, List.getElem_cons_zero, List.getElem_cons_succ, Act.put, List.setIfInBounds_toArray, List.set_cons_zero, List.set_cons_succ]
            refine wpAnyH_take (i := 2) (v := ?_) rfl (by kernel_rfl) (by kernel_rfl) (by kernel_rfl) (fun _ _ _ h => h) (Or.inl ⟨by rfl, ?_⟩) hS ?_
            rotate_left 1
            · intro w hSw; (try dsimp only at hSw); go_simp <;> with_reducible rfl
            try simp only [List.getElem_toArray, List.getElem_cons_zero, List.getElem_cons_succ, Act.put, List.setIfInBounds_toArray, List.set_cons_zero, List.set_cons_succ]
            refine wpAnyH_take (i := 3) (v := ?_) rfl (by kernel_rfl) (by kernel_rfl) (by kernel_rfl) (fun _ _ _ h => h) (Or.inl ⟨by rfl, ?_⟩) hS ?_
            rotate_left 1
            · intro w hSw; (try dsimp only at hSw); go_simp <;> with_reducible rfl
            try simp only [List.getElem_toArray, List.getElem_cons_zero, List.getElem_cons_succ, Act.put, List.setIfInBounds_toArray, List.set_cons_zero, List.set_cons_succ]
            refine wpAnyH_take (i := 4) (v := ?_) rfl (by kernel_rfl) (by kernel_rfl) (by kernel_rfl) (fun _ _ _ h => h) (Or.inl ⟨by rfl, ?_⟩) hS ?_
            rotate_left 1
            · intro w hSw; (try dsimp only at hSw); go_simp <;> with_reducible rfl
            try simp only [List.getElem_toArray, List.getElem_cons_zero, List.getElem_cons_succ, Act.put, List.setIfInBounds_toArray, List.set_cons_zero, List.set_cons_succ]
            refine wpAnyH_take (i := 5) (v := ?_) rfl (by kernel_rfl) (by kernel_rfl) (by kernel_rfl) (fun _ _ _ h => h) (Or.inl ⟨by rfl, ?_⟩) hS ?_
            rotate_left 1
            · intro w hSw; (try dsimp only at hSw); go_simp <;> with_reducible rfl
            try simp only [List.getElem_toArray, List.getElem_cons_zero, List.getElem_cons_succ, Act.put, List.setIfInBounds_toArray, List.set_cons_zero, List.set_cons_succ]
            refine wpAnyH_take (i := 6) (v := ?_) rfl (by kernel_rfl) (by kernel_rfl) (by kernel_rfl) (fun _ _ _ h => h) (Or.inl ⟨by rfl, ?_⟩) hS ?_
            rotate_left 1
            · intro w hSw; (try dsimp only at hSw); go_simp <;> with_reducible rfl
            try simp only [List.getElem_toArray, List.getElem_cons_zero, List.getElem_cons_succ, Act.put, List.setIfInBounds_toArray, List.set_cons_zero, List.set_cons_succ]
            refine wpAnyH_take (i := 7) (v := ?_) rfl (by kernel_rfl) (by kernel_rfl) (by kernel_rfl) (fun _ _ _ h => h) (Or.inl ⟨by rfl, ?_⟩) hS ?_
            rotate_left 1
            · intro w hSw; (try dsimp only at hSw); go_simp <;> with_reducible rfl
            try simp only [List.getElem_toArray, List.getElem_cons_zero, List.getElem_cons_succ, Act.put, List.setIfInBounds_toArray, List.set_cons_zero, List.set_cons_succ]
            refine wpAnyH_take (i := 8) (v := ?_) rfl (by kernel_rfl) (by kernel_rfl) (by kernel_rfl) (fun _ _ _ h => h) (Or.inl ⟨by rfl, ?_⟩) hS ?_
            rotate_left 1
            · intro w hSw; (try dsimp only at hSw); go_simp <;> with_reducible rfl
            try simp only [List.getElem_toArray, List.getElem_cons_zero, List.getElem_cons_succ, Act.put, List.setIfInBounds_toArray, List.set_cons_zero, List.set_cons_succ]
            refine wpAnyH_take (i := 9) (v := ?_) rfl (by kernel_rfl) (by kernel_rfl) (by kernel_rfl) (fun _ _ _ h => h) (Or.inl ⟨by rfl, ?_⟩) hS ?_
            rotate_left 1
            · intro w hSw; (try dsimp only at hSw); go_simp <;> with_reducible rfl
            try simp only [List.getElem_toArray, List.getElem_cons_zero, List.getElem_cons_succ, Act.put, List.setIfInBounds_toArray, List.set_cons_zero, List.set_cons_succ]
            refine wpAnyH_take (i := 10) (v := ?_) rfl (by kernel_rfl) (by kernel_rfl) (by kernel_rfl) (fun _ _ _ h => h) (Or.inl ⟨by rfl, ?_⟩) hS ?_
            rotate_left 1
            · intro w hSw; (try dsimp only at hSw); go_simp <;> with_reducible rfl
            try simp only [List.getElem_toArray, List.getElem_cons_zero, List.getElem_cons_succ, Act.put, List.setIfInBounds_toArray, List.set_cons_zero, List.set_cons_succ]
            refine wpAnyH_take (i := 11) (v := ?_) rfl (by kernel_rfl) (by kernel_rfl) (by kernel_rfl) (fun _ _ _ h => h) (Or.inl ⟨by rfl, ?_⟩) hS ?_
            rotate_left 1
            · intro w hSw; (try dsimp only at hSw); go_simp <;> with_reducible rfl
            try simp only [List.getElem_toArray, List.getElem_cons_zero, List.getElem_cons_succ, Act.put, List.setIfInBounds_toArray, List.set_cons_zero, List.set_cons_succ]
            refine wpAnyH_done (by kernel_rfl) ?_ _
            have HB0 : Hid (Below W.heap.size W wr.drew) := Below.drew HBW.out
            have HH0 : Hid (HashAt wr.drew gh (nats (cutAll ps k))) := HHH.out
            have HO0 : Hid (HashAt wr.drew go mo) := HHO.out
            have HOW0 : Hid (∀ x, wr.ownsRow w3.heap.size 5 1 x m ((cutAll ps k).map (Value.int .u8)) → wr.drew.ownsRow w3.heap.size 5 1 x m ((cutAll ps k).map (Value.int .u8))) := fun _ h => h
            have HOWD : Hid _ := HOW0.out _ HOW.out
            have hszd : w3.heap.size ≤ wr.drew.heap.size := hsz
            clear hS hcw HBW HHH HHO HOW HOW0
            generalize wr.drew = w4 at *
            go_wp2_with fail
            refine Calls.mono (HW1.out _ HB0.out HH0.out) ?_
            rintro e w5 ⟨rfl, hh5, hg5⟩
            have HB5 : Hid (Below W.heap.size W w5) := HB0.out.grown hg5 HB0.out.size (fun k h => by injection h with h; have := HGW.out; omega)
            have HO5 : Hid (HashAt w5 go mo) := HashAt.grown HO0.out hg5 (by intro e; injection e; have := HGW.out; omega)
            have HOW5 : Hid _ := World.ownsRow.kept HOWD.out hg5 (own_ne HOWD.out (by have := HGW.out; omega))
            have hs5 := hg5.size
            have HH5 : Hid _ := hh5
            clear hg5 hh5 HB0 HH0 HO0 HOWD HW1
            go_wp2_with fail
            refine Calls.mono (HW2.out _ HB5.out HO5.out) ?_
            rintro e w6 ⟨rfl, hh6, hg6⟩
            have HB6 : Hid (Below W.heap.size W w6) := HB5.out.grown hg6 HB5.out.size (fun k h => by injection h with h; have := HGW.out; omega)
            have HH6 : Hid (HashAt w6 gh (nats (cutAll ps (k + 1)))) := HashAt.grown HH5.out hg6 (by intro e; injection e; have := HGW.out; omega)
            have HOW6 : Hid _ := World.ownsRow.kept HOW5.out hg6 (own_ne HOW5.out (by omega))
            have hs6 := hg6.size
            have HO6 : Hid _ := hh6
            have hrow6 := HRW2.out w6 HB6.out
            clear hg6 hh6 HB5 HO5 HOW5 HH5 HW2 HRW2
            go_wp2_with (at_builtin; refine wpList_append_own_any rfl (.tmp 52) (.tmp 53) 24 rfl w3.heap.size 5 i0 (.int .u8 0) 1 1 Tryd.underlying24 hi hz0 hz1 hz2 rfl (by decide) _ m _ rfl HOW6.out pa q pc (PZ.map (Value.int .u8)) rfl (by rw [List.length_map, Nat.mul_one]; exact HPL.out) HNO.out hrow6.news (ints_oneCell _ _) (by unfold maxLen; omega) (by omega) (by omega) ?_; intro v7 w7 hown7 hgrow7; rw [← List.map_append, ← HNX.out] at hown7; have HG7 : Hid _ := hgrow7; obtain ⟨a7, c7, hv7, hrow7, hc7, hm7, hn7⟩ := own_shape hown7; subst hv7; have HOW7 : Hid _ := hown7; have HRW7 : Hid _ := hrow7; clear hgrow7 hown7 hrow7)
            have hge := own_ge HOW6.out
            have HB7 : Hid (Below W.heap.size W w7) := HB6.out.grown HG7.out HB6.out.size (fun k h => by have := hge k h; have := HGW.out; omega)
            have HH7 : Hid (HashAt w7 gh (nats (cutAll ps (k + 1)))) := HashAt.grown HH6.out HG7.out (by intro e; have := hge gh e.symm; omega)
            have HO7 : Hid (HashAt w7 go (mo ++ nats zs)) := HashAt.grown HO6.out HG7.out (by intro e; have := hge go e.symm; omega)
            have hs7 : w6.heap.size ≤ w7.heap.size := (show w6.grownBy w7 _ from HG7.out).size
            clear HB6 HH6 HO6 HOW6 HG7 hrow6 hge
            have hcb := cutAll_byte HR.out.2 (k + 1)
            have hcl := cutAll_len ps (k + 1)
            have hSU : Calls Tryd.prog 9 #[.slice (some ⟨w7.heap.size, 0, none⟩) 1 1] (w7.alloc (.cells #[.slice a7 (cutAll ps (k + 1)).length c7] 24)) fun e w2 => e = .returned (.agg (u8v (ShaMath.digest (nats (cutAll ps (k + 1))))).toArray) ∧ Below (w7.alloc (.cells #[.slice a7 (cutAll ps (k + 1)).length c7] 24)).heap.size (w7.alloc (.cells #[.slice a7 (cutAll ps (k + 1)).length c7] 24)) w2 := by
              have := shaSum_any (some ⟨w7.heap.size, 0, none⟩) [⟨a7, cutAll ps (k + 1), c7⟩] 1 (w7.alloc (.cells ([⟨a7, cutAll ps (k + 1), c7⟩].map Part.val).toArray 24)) (HT.out.1.later (HB7.out.alloc HB7.out.size _) htl) (lit_parts w7 [⟨a7, cutAll ps (k + 1), c7⟩] 24 _ rfl (by intro p hp; simp at hp; subst hp; exact ⟨HRW7.out, hcb, hc7, hm7⟩)) (by simp) (by decide) (by simp [allB]; omega)
              simpa [allB, Part.val] using this
            have HSU : Hid _ := hSU
            have HXl : Hid ((u8v (ShaMath.digest (nats (cutAll ps (k + 1))))).length = 32) := by show _ = _; rw [u8v_len]; rfl
            have HXo : Hid _ := u8v_one (ShaMath.digest (nats (cutAll ps (k + 1))))
            have heq := eq_same _ (digest_len (nats (cutAll ps (k + 1))))
            have HHS : Hid (∀ wd, Below W.heap.size W wd → HashAt wd gh (nats (cutAll ps (k + 1))) → Calls Tryd.prog 13 #[.pointer (some ⟨gh, 0, none⟩)] wd fun e w' => e = .returned (.agg (u8v (ShaMath.digest (nats (cutAll ps (k + 1))))).toArray) ∧ Below wd.heap.size wd w') := fun wd hB hh => hashSum_any gh _ wd (HT.out.1.later hB htl) (by have := HGW.out; omega) hh (by simp [nats]; omega)
            generalize u8v (ShaMath.digest (nats (cutAll ps (k + 1)))) = Xd at *
            clear hSU hcb
            go_wp2_with fail
            refine Calls.mono HSU.out ?_
            rintro e w8 ⟨rfl, hb8⟩
            have HB8 : Hid (Below w7.heap.size w7 w8) := ((Below.refl _ _).alloc (Nat.le_refl _) _).trans (hb8.mono (by simp))
            clear hb8 HSU
            have HB9 : Hid (Below w7.heap.size w7 ((w8.alloc (Obj.cells Z.toArray 26)).setRow w8.heap.size Xd.toArray)) := below_setRow (HB8.out.alloc HB8.out.size _) HB8.out.size _
            have HX9 : Hid (Arr ((w8.alloc (Obj.cells Z.toArray 26)).setRow w8.heap.size Xd.toArray) w8.heap.size 26 Xd) := Arr.row (Arr.new w8 26 Z rfl)
            go_wp2_with (refine wpList_store_arr rfl 26 (.tmp 10) (.tmp 57) rfl w8.heap.size 26 Z Xd rfl rfl (Arr.new w8 26 Z rfl) (by rw [HXl.out]; exact size26) (by rw [HZl.out, HXl.out]) HXo.out ?_)
            obtain ⟨gx, hgx⟩ : ∃ g, g = w8.heap.size := ⟨_, rfl⟩
            rw [← hgx] at HB9 HX9 ⊢
            clear hgx HB8
            generalize ((w8.alloc (Obj.cells Z.toArray 26)).setRow gx Xd.toArray) = w9 at *
            have HCS : Hid (∀ wd, Below w9.heap.size w9 wd → Calls Tryd.prog 13 #[.pointer (some ⟨gh, 0, none⟩)] wd fun e w' => e = .returned (.agg Xd.toArray) ∧ Below wd.heap.size wd w') := by
              intro wd h
              have h7 : Below w7.heap.size w7 wd := HB9.out.trans (h.mono HB9.out.size)
              exact HHS.out wd (HB7.out.trans (h7.mono HB7.out.size)) (HashAt.later HH7.out h7 (HashAt.lt HH7.out))
            refine wp_region_held_drew (S := fun w' => Below w9.heap.size w9 w') rfl ((Below.refl _ _).drew) (fun hS => ?_)
            refine wpAnyH_take (i := 0) (v := ?_) rfl (by kernel_rfl) (by kernel_rfl) (by kernel_rfl) (fun _ _ _ h => h) (Or.inl ⟨by rfl, ?_⟩) hS ?_
            rotate_left 1
            · intro w hSw; (try dsimp only at hSw); go_simp <;> with_reducible rfl
            try simp only [List.getElem_toArray, List.getElem_cons_zero, List.getElem_cons_succ, Act.put, List.setIfInBounds_toArray, List.set_cons_zero, List.set_cons_succ]
            refine wpAnyH_take (i := 2) (v := _) rfl (by kernel_rfl) (by kernel_rfl) (by kernel_rfl) (fun _ _ _ h => h) (yieldsIf_load_mid (by rfl) 26 (.tmp 10) rfl gx 0 rfl Xd (.array 32 5) (fun w' h => range_of_arr (Arr.later HX9.out h (Arr.lt HX9.out))) Tryd.underlying26 rfl (by rw [HXl.out]; exact size26)) hS ?_
            try simp only [List.getElem_toArray, List.getElem_cons_zero, List.getElem_cons_succ, Act.put, List.setIfInBounds_toArray, List.set_cons_zero, List.set_cons_succ]
            refine wpAnyH_ready (rs := [1]) (by kernel_rfl) (by simp) ?_
            refine AllReadyH.cons rfl (fun K hK => ?_) AllReadyH.nil
            go_simp
            refine Calls.mono (HCS.out _ hS) ?_
            rintro e wa ⟨rfl, hba⟩
            have hS2 : Below w9.heap.size w9 wa := Below.trans hS (hba.mono hS.size)
            clear hba
            refine hK.out _ _ hS2 (fun hS => ?_)
            clear hK K hS2
            try simp only [List.getElem_toArray, List.getElem_cons_zero, List.getElem_cons_succ, Act.put, List.setIfInBounds_toArray, List.set_cons_zero, List.set_cons_succ]
            refine wpAnyH_take (i := 3) (v := ?_) rfl (by kernel_rfl) (by kernel_rfl) (by kernel_rfl) (fun _ _ _ h => h) (Or.inl ⟨by rfl, ?_⟩) hS ?_
            rotate_left 1
            · intro w hSw; (try dsimp only at hSw); go_simp <;> with_reducible rfl
            try simp only [List.getElem_toArray, List.getElem_cons_zero, List.getElem_cons_succ, Act.put, List.setIfInBounds_toArray, List.set_cons_zero, List.set_cons_succ]
            refine wpAnyH_take (i := 4) (v := ?_) rfl (by kernel_rfl) (by kernel_rfl) (by kernel_rfl) (fun _ _ _ h => h) (Or.inl ⟨by rfl, ?_⟩) hS ?_
            rotate_left 1
            · intro w hSw; (try dsimp only at hSw); go_simp <;> with_reducible rfl
            try simp only [List.getElem_toArray, List.getElem_cons_zero, List.getElem_cons_succ, Act.put, List.setIfInBounds_toArray, List.set_cons_zero, List.set_cons_succ]
            refine wpAnyH_take (i := 5) (v := ?_) rfl (by kernel_rfl) (by kernel_rfl) (by kernel_rfl) (fun _ _ _ h => h) (Or.inl ⟨by rfl, ?_⟩) hS ?_
            rotate_left 1
            · intro w hSw; (try dsimp only at hSw); go_simp <;> with_reducible rfl
            try simp only [List.getElem_toArray, List.getElem_cons_zero, List.getElem_cons_succ, Act.put, List.setIfInBounds_toArray, List.set_cons_zero, List.set_cons_succ]
            refine wpAnyH_take (i := 7) (v := _) rfl (by kernel_rfl) (by kernel_rfl) (by kernel_rfl) (fun _ _ _ h => h) (yieldsIf_load_mid (by rfl) 26 (.tmp 10) rfl gx 0 rfl Xd (.array 32 5) (fun w' h => range_of_arr (Arr.later HX9.out h (Arr.lt HX9.out))) Tryd.underlying26 rfl (by rw [HXl.out]; exact size26)) hS ?_
            try simp only [List.getElem_toArray, List.getElem_cons_zero, List.getElem_cons_succ, Act.put, List.setIfInBounds_toArray, List.set_cons_zero, List.set_cons_succ]
            refine wpAnyH_ready (rs := [6]) (by kernel_rfl) (by simp) ?_
            refine AllReadyH.cons rfl (fun K hK => ?_) AllReadyH.nil
            go_simp
            refine Calls.mono (HCS.out _ hS) ?_
            rintro e wb ⟨rfl, hbb⟩
            have hS2 : Below w9.heap.size w9 wb := Below.trans hS (hbb.mono hS.size)
            clear hbb
            refine hK.out _ _ hS2 (fun hS => ?_)
            clear hK K hS2
            try simp only [List.getElem_toArray, List.getElem_cons_zero, List.getElem_cons_succ, Act.put, List.setIfInBounds_toArray, List.set_cons_zero, List.set_cons_succ]
            refine wpAnyH_take (i := 8) (v := ?_) rfl (by kernel_rfl) (by kernel_rfl) (by kernel_rfl) (fun _ _ _ h => h) (Or.inl ⟨by rfl, ?_⟩) hS ?_
            rotate_left 1
            · intro w hSw; (try dsimp only at hSw); go_simp <;> with_reducible rfl
            try simp only [List.getElem_toArray, List.getElem_cons_zero, List.getElem_cons_succ, Act.put, List.setIfInBounds_toArray, List.set_cons_zero, List.set_cons_succ]
            refine wpAnyH_take (i := 9) (v := ?_) rfl (by kernel_rfl) (by kernel_rfl) (by kernel_rfl) (fun _ _ _ h => h) (Or.inl ⟨by rfl, ?_⟩) hS ?_
            rotate_left 1
            · intro w hSw; (try dsimp only at hSw); go_simp <;> with_reducible rfl
            try simp only [List.getElem_toArray, List.getElem_cons_zero, List.getElem_cons_succ, Act.put, List.setIfInBounds_toArray, List.set_cons_zero, List.set_cons_succ]
            refine wpAnyH_done (by kernel_rfl) ?_ _
            have h7b : Below w7.heap.size w7 wb := HB9.out.trans (hS.mono HB9.out.size)
            have HFIN : Hid (wb.ownsRow w3.heap.size 5 1 (.slice a7 (cutAll ps (k + 1)).length c7) (m + q) ((cutAll ps (k + 1)).map (Value.int .u8)) ∧ HashAt wb gh (nats (cutAll ps (k + 1))) ∧ HashAt wb go (mo ++ nats zs) ∧ Below W.heap.size W wb ∧ w3.heap.size ≤ wb.heap.size) :=
              ⟨World.ownsRow.kept HOW7.out ⟨h7b.os, h7b.tape, h7b.output, h7b.size, fun k hk _ => h7b.block k hk⟩ (row := none) (by cases (Value.slice a7 (cutAll ps (k + 1)).length c7).ownBlock <;> simp), HashAt.later HH7.out h7b (HashAt.lt HH7.out), HashAt.later HO7.out h7b (HashAt.lt HO7.out), HB7.out.trans (h7b.mono HB7.out.size), by have := h7b.size; omega⟩
            have HMN : Hid (m + q = (cutAll ps (k + 1)).length) := by show _ = _; rw [HNX.out, List.length_append, HPL.out, ← HM0.out]
            clear hS h7b heq HB9 HX9 HCS HHS HOW7 HRW7 HH7 HO7 HB7
            go_wp2
            go_roundw
            case rel => exact ⟨k + 1, m + q, mo ++ nats zs, by omega, by go_num, HMN.out, HFIN.out.1, HFIN.out.2.1, HFIN.out.2.2.1, by rw [List.length_append]; simp [nats]; have := HL1.out; omega, HFIN.out.2.2.2.1, HFIN.out.2.2.2.2⟩
            case measure => simp [intOf]; omega
          · have hI : ¬ (pl : Int) ≤ 150 := by omega
            have hJ : (150 : Int) < (pl : Int) := by omega
            have hpcI : (150 : Int) ≤ (pc : Int) := by omega
            subst hc2'
            go_wp2_with fail
            refine wp_region_held_drew (S := fun w' => w'.cell? ⟨b, off + k, none⟩ = some (.slice pa pl pc)) rfl hcw (fun hS => ?_)
            refine wpAnyH_take (i := 0) (v := ?_) rfl (by kernel_rfl) (by kernel_rfl) (by kernel_rfl) (fun _ _ _ h => h) (Or.inl ⟨by rfl, ?_⟩) hS ?_
            rotate_left 1
            · intro w hSw; (try dsimp only at hSw); go_simp <;> with_reducible rfl
            try simp only [List.getElem_toArray, List.getElem_cons_zero, List.getElem_cons_succ, Act.put, List.setIfInBounds_toArray, List.set_cons_zero, List.set_cons_succ]
            refine wpAnyH_take (i := 1) (v := ?_) rfl (by kernel_rfl) (by kernel_rfl) (by kernel_rfl) (fun _ _ _ h => h) (Or.inl ⟨by rfl, ?_⟩) hS ?_
            rotate_left 1
            · intro w hSw; (try dsimp only at hSw); go_simp <;> with_reducible rfl
            try simp only [List.getElem_toArray, List.getElem_cons_zero, List.getElem_cons_succ, Act.put, List.setIfInBounds_toArray, List.set_cons_zero, List.set_cons_succ]
            refine wpAnyH_take (i := 2) (v := ?_) rfl (by kernel_rfl) (by kernel_rfl) (by kernel_rfl) (fun _ _ _ h => h) (Or.inl ⟨by rfl, ?_⟩) hS ?_
            rotate_left 1
            · intro w hSw; (try dsimp only at hSw); go_simp <;> with_reducible rfl
            try simp only [List.getElem_toArray, List.getElem_cons_zero, List.getElem_cons_succ, Act.put, List.setIfInBounds_toArray, List.set_cons_zero, List.set_cons_succ]
            refine wpAnyH_take (i := 3) (v := ?_) rfl (by kernel_rfl) (by kernel_rfl) (by kernel_rfl) (fun _ _ _ h => h) (Or.inl ⟨by rfl, ?_⟩) hS ?_
            rotate_left 1
            · intro w hSw; (try dsimp only at hSw); go_simp <;> with_reducible rfl
            try simp only [List.getElem_toArray, List.getElem_cons_zero, List.getElem_cons_succ, Act.put, List.setIfInBounds_toArray, List.set_cons_zero, List.set_cons_succ]
            refine wpAnyH_take (i := 4) (v := ?_) rfl (by kernel_rfl) (by kernel_rfl) (by kernel_rfl) (fun _ _ _ h => h) (Or.inl ⟨by rfl, ?_⟩) hS ?_
            rotate_left 1
            · intro w hSw; (try dsimp only at hSw); go_simp <;> with_reducible rfl
            try simp only [List.getElem_toArray, List.getElem_cons_zero, List.getElem_cons_succ, Act.put, List.setIfInBounds_toArray, List.set_cons_zero, List.set_cons_succ]
            refine wpAnyH_take (i := 5) (v := ?_) rfl (by kernel_rfl) (by kernel_rfl) (by kernel_rfl) (fun _ _ _ h => h) (Or.inl ⟨by rfl, ?_⟩) hS ?_
            rotate_left 1
            · intro w hSw; (try dsimp only at hSw); go_simp <;> with_reducible rfl
            try simp only [List.getElem_toArray, List.getElem_cons_zero, List.getElem_cons_succ, Act.put, List.setIfInBounds_toArray, List.set_cons_zero, List.set_cons_succ]
            refine wpAnyH_take (i := 6) (v := ?_) rfl (by kernel_rfl) (by kernel_rfl) (by kernel_rfl) (fun _ _ _ h => h) (Or.inl ⟨by rfl, ?_⟩) hS ?_
            rotate_left 1
            · intro w hSw; (try dsimp only at hSw); go_simp <;> with_reducible rfl
            try simp only [List.getElem_toArray, List.getElem_cons_zero, List.getElem_cons_succ, Act.put, List.setIfInBounds_toArray, List.set_cons_zero, List.set_cons_succ]
            refine wpAnyH_take (i := 7) (v := ?_) rfl (by kernel_rfl) (by kernel_rfl) (by kernel_rfl) (fun _ _ _ h => h) (Or.inl ⟨by rfl, ?_⟩) hS ?_
            rotate_left 1
            · intro w hSw; (try dsimp only at hSw); go_simp <;> with_reducible rfl
            try simp only [List.getElem_toArray, List.getElem_cons_zero, List.getElem_cons_succ, Act.put, List.setIfInBounds_toArray, List.set_cons_zero, List.set_cons_succ]
            refine wpAnyH_take (i := 8) (v := ?_) rfl (by kernel_rfl) (by kernel_rfl) (by kernel_rfl) (fun _ _ _ h => h) (Or.inl ⟨by rfl, ?_⟩) hS ?_
            rotate_left 1
            · intro w hSw; (try dsimp only at hSw); go_simp <;> with_reducible rfl
            try simp only [List.getElem_toArray, List.getElem_cons_zero, List.getElem_cons_succ, Act.put, List.setIfInBounds_toArray, List.set_cons_zero, List.set_cons_succ]
            refine wpAnyH_take (i := 9) (v := ?_) rfl (by kernel_rfl) (by kernel_rfl) (by kernel_rfl) (fun _ _ _ h => h) (Or.inl ⟨by rfl, ?_⟩) hS ?_
            rotate_left 1
            · intro w hSw; (try dsimp only at hSw); go_simp <;> with_reducible rfl
            try simp only [List.getElem_toArray, List.getElem_cons_zero, List.getElem_cons_succ, Act.put, List.setIfInBounds_toArray, List.set_cons_zero, List.set_cons_succ]
            refine wpAnyH_take (i := 10) (v := ?_) rfl (by kernel_rfl) (by kernel_rfl) (by kernel_rfl) (fun _ _ _ h => h) (Or.inl ⟨by rfl, ?_⟩) hS ?_
            rotate_left 1
            · intro w hSw; (try dsimp only at hSw); go_simp <;> with_reducible rfl
            try simp only [List.getElem_toArray, List.getElem_cons_zero, List.getElem_cons_succ, Act.put, List.setIfInBounds_toArray, List.set_cons_zero, List.set_cons_succ]
            refine wpAnyH_take (i := 11) (v := ?_) rfl (by kernel_rfl) (by kernel_rfl) (by kernel_rfl) (fun _ _ _ h => h) (Or.inl ⟨by rfl, ?_⟩) hS ?_
            rotate_left 1
            · intro w hSw; (try dsimp only at hSw); go_simp <;> with_reducible rfl
            try simp only [List.getElem_toArray, List.getElem_cons_zero, List.getElem_cons_succ, Act.put, List.setIfInBounds_toArray, List.set_cons_zero, List.set_cons_succ]
            refine wpAnyH_done (by kernel_rfl) ?_ _
            have HB0 : Hid (Below W.heap.size W wr.drew) := Below.drew HBW.out
            have HH0 : Hid (HashAt wr.drew gh (nats (cutAll ps k))) := HHH.out
            have HO0 : Hid (HashAt wr.drew go mo) := HHO.out
            have HOW0 : Hid (∀ x, wr.ownsRow w3.heap.size 5 1 x m ((cutAll ps k).map (Value.int .u8)) → wr.drew.ownsRow w3.heap.size 5 1 x m ((cutAll ps k).map (Value.int .u8))) := fun _ h => h
            have HOWD : Hid _ := HOW0.out _ HOW.out
            have hszd : w3.heap.size ≤ wr.drew.heap.size := hsz
            clear hS hcw HBW HHH HHO HOW HOW0
            generalize wr.drew = w4 at *
            go_wp2_with fail
            refine Calls.mono (HW1.out _ HB0.out HH0.out) ?_
            rintro e w5 ⟨rfl, hh5, hg5⟩
            have HB5 : Hid (Below W.heap.size W w5) := HB0.out.grown hg5 HB0.out.size (fun k h => by injection h with h; have := HGW.out; omega)
            have HO5 : Hid (HashAt w5 go mo) := HashAt.grown HO0.out hg5 (by intro e; injection e; have := HGW.out; omega)
            have HOW5 : Hid _ := World.ownsRow.kept HOWD.out hg5 (own_ne HOWD.out (by have := HGW.out; omega))
            have hs5 := hg5.size
            have HH5 : Hid _ := hh5
            clear hg5 hh5 HB0 HH0 HO0 HOWD HW1
            go_wp2_with fail
            refine Calls.mono (HW2.out _ HB5.out HO5.out) ?_
            rintro e w6 ⟨rfl, hh6, hg6⟩
            have HB6 : Hid (Below W.heap.size W w6) := HB5.out.grown hg6 HB5.out.size (fun k h => by injection h with h; have := HGW.out; omega)
            have HH6 : Hid (HashAt w6 gh (nats (cutAll ps (k + 1)))) := HashAt.grown HH5.out hg6 (by intro e; injection e; have := HGW.out; omega)
            have HOW6 : Hid _ := World.ownsRow.kept HOW5.out hg6 (own_ne HOW5.out (by omega))
            have hs6 := hg6.size
            have HO6 : Hid _ := hh6
            have hrow6 := HRW2.out w6 HB6.out
            clear hg6 hh6 HB5 HO5 HOW5 HH5 HW2 HRW2
            go_wp2_with (at_builtin; refine wpList_append_own_any rfl (.tmp 52) (.tmp 53) 24 rfl w3.heap.size 5 i0 (.int .u8 0) 1 1 Tryd.underlying24 hi hz0 hz1 hz2 rfl (by decide) _ m _ rfl HOW6.out pa 150 pc (PZ.map (Value.int .u8)) rfl (by rw [List.length_map, Nat.mul_one]; exact HPL.out) HNO.out hrow6.news (ints_oneCell _ _) (by unfold maxLen; omega) (by omega) (by omega) ?_; intro v7 w7 hown7 hgrow7; rw [← List.map_append, ← HNX.out] at hown7; have HG7 : Hid _ := hgrow7; obtain ⟨a7, c7, hv7, hrow7, hc7, hm7, hn7⟩ := own_shape hown7; subst hv7; have HOW7 : Hid _ := hown7; have HRW7 : Hid _ := hrow7; clear hgrow7 hown7 hrow7)
            have hge := own_ge HOW6.out
            have HB7 : Hid (Below W.heap.size W w7) := HB6.out.grown HG7.out HB6.out.size (fun k h => by have := hge k h; have := HGW.out; omega)
            have HH7 : Hid (HashAt w7 gh (nats (cutAll ps (k + 1)))) := HashAt.grown HH6.out HG7.out (by intro e; have := hge gh e.symm; omega)
            have HO7 : Hid (HashAt w7 go (mo ++ nats zs)) := HashAt.grown HO6.out HG7.out (by intro e; have := hge go e.symm; omega)
            have hs7 : w6.heap.size ≤ w7.heap.size := (show w6.grownBy w7 _ from HG7.out).size
            clear HB6 HH6 HO6 HOW6 HG7 hrow6 hge
            have hcb := cutAll_byte HR.out.2 (k + 1)
            have hcl := cutAll_len ps (k + 1)
            have hSU : Calls Tryd.prog 9 #[.slice (some ⟨w7.heap.size, 0, none⟩) 1 1] (w7.alloc (.cells #[.slice a7 (cutAll ps (k + 1)).length c7] 24)) fun e w2 => e = .returned (.agg (u8v (ShaMath.digest (nats (cutAll ps (k + 1))))).toArray) ∧ Below (w7.alloc (.cells #[.slice a7 (cutAll ps (k + 1)).length c7] 24)).heap.size (w7.alloc (.cells #[.slice a7 (cutAll ps (k + 1)).length c7] 24)) w2 := by
              have := shaSum_any (some ⟨w7.heap.size, 0, none⟩) [⟨a7, cutAll ps (k + 1), c7⟩] 1 (w7.alloc (.cells ([⟨a7, cutAll ps (k + 1), c7⟩].map Part.val).toArray 24)) (HT.out.1.later (HB7.out.alloc HB7.out.size _) htl) (lit_parts w7 [⟨a7, cutAll ps (k + 1), c7⟩] 24 _ rfl (by intro p hp; simp at hp; subst hp; exact ⟨HRW7.out, hcb, hc7, hm7⟩)) (by simp) (by decide) (by simp [allB]; omega)
              simpa [allB, Part.val] using this
            have HSU : Hid _ := hSU
            have HXl : Hid ((u8v (ShaMath.digest (nats (cutAll ps (k + 1))))).length = 32) := by show _ = _; rw [u8v_len]; rfl
            have HXo : Hid _ := u8v_one (ShaMath.digest (nats (cutAll ps (k + 1))))
            have heq := eq_same _ (digest_len (nats (cutAll ps (k + 1))))
            have HHS : Hid (∀ wd, Below W.heap.size W wd → HashAt wd gh (nats (cutAll ps (k + 1))) → Calls Tryd.prog 13 #[.pointer (some ⟨gh, 0, none⟩)] wd fun e w' => e = .returned (.agg (u8v (ShaMath.digest (nats (cutAll ps (k + 1))))).toArray) ∧ Below wd.heap.size wd w') := fun wd hB hh => hashSum_any gh _ wd (HT.out.1.later hB htl) (by have := HGW.out; omega) hh (by simp [nats]; omega)
            generalize u8v (ShaMath.digest (nats (cutAll ps (k + 1)))) = Xd at *
            clear hSU hcb
            go_wp2_with fail
            refine Calls.mono HSU.out ?_
            rintro e w8 ⟨rfl, hb8⟩
            have HB8 : Hid (Below w7.heap.size w7 w8) := ((Below.refl _ _).alloc (Nat.le_refl _) _).trans (hb8.mono (by simp))
            clear hb8 HSU
            have HB9 : Hid (Below w7.heap.size w7 ((w8.alloc (Obj.cells Z.toArray 26)).setRow w8.heap.size Xd.toArray)) := below_setRow (HB8.out.alloc HB8.out.size _) HB8.out.size _
            have HX9 : Hid (Arr ((w8.alloc (Obj.cells Z.toArray 26)).setRow w8.heap.size Xd.toArray) w8.heap.size 26 Xd) := Arr.row (Arr.new w8 26 Z rfl)
            go_wp2_with (refine wpList_store_arr rfl 26 (.tmp 10) (.tmp 57) rfl w8.heap.size 26 Z Xd rfl rfl (Arr.new w8 26 Z rfl) (by rw [HXl.out]; exact size26) (by rw [HZl.out, HXl.out]) HXo.out ?_)
            obtain ⟨gx, hgx⟩ : ∃ g, g = w8.heap.size := ⟨_, rfl⟩
            rw [← hgx] at HB9 HX9 ⊢
            clear hgx HB8
            generalize ((w8.alloc (Obj.cells Z.toArray 26)).setRow gx Xd.toArray) = w9 at *
            have HCS : Hid (∀ wd, Below w9.heap.size w9 wd → Calls Tryd.prog 13 #[.pointer (some ⟨gh, 0, none⟩)] wd fun e w' => e = .returned (.agg Xd.toArray) ∧ Below wd.heap.size wd w') := by
              intro wd h
              have h7 : Below w7.heap.size w7 wd := HB9.out.trans (h.mono HB9.out.size)
              exact HHS.out wd (HB7.out.trans (h7.mono HB7.out.size)) (HashAt.later HH7.out h7 (HashAt.lt HH7.out))
            refine wp_region_held_drew (S := fun w' => Below w9.heap.size w9 w') rfl ((Below.refl _ _).drew) (fun hS => ?_)
            refine wpAnyH_take (i := 0) (v := ?_) rfl (by kernel_rfl) (by kernel_rfl) (by kernel_rfl) (fun _ _ _ h => h) (Or.inl ⟨by rfl, ?_⟩) hS ?_
            rotate_left 1
            · intro w hSw; (try dsimp only at hSw); go_simp <;> with_reducible rfl
            try simp only [List.getElem_toArray, List.getElem_cons_zero, List.getElem_cons_succ, Act.put, List.setIfInBounds_toArray, List.set_cons_zero, List.set_cons_succ]
            refine wpAnyH_take (i := 2) (v := _) rfl (by kernel_rfl) (by kernel_rfl) (by kernel_rfl) (fun _ _ _ h => h) (yieldsIf_load_mid (by rfl) 26 (.tmp 10) rfl gx 0 rfl Xd (.array 32 5) (fun w' h => range_of_arr (Arr.later HX9.out h (Arr.lt HX9.out))) Tryd.underlying26 rfl (by rw [HXl.out]; exact size26)) hS ?_
            try simp only [List.getElem_toArray, List.getElem_cons_zero, List.getElem_cons_succ, Act.put, List.setIfInBounds_toArray, List.set_cons_zero, List.set_cons_succ]
            refine wpAnyH_ready (rs := [1]) (by kernel_rfl) (by simp) ?_
            refine AllReadyH.cons rfl (fun K hK => ?_) AllReadyH.nil
            go_simp
            refine Calls.mono (HCS.out _ hS) ?_
            rintro e wa ⟨rfl, hba⟩
            have hS2 : Below w9.heap.size w9 wa := Below.trans hS (hba.mono hS.size)
            clear hba
            refine hK.out _ _ hS2 (fun hS => ?_)
            clear hK K hS2
            try simp only [List.getElem_toArray, List.getElem_cons_zero, List.getElem_cons_succ, Act.put, List.setIfInBounds_toArray, List.set_cons_zero, List.set_cons_succ]
            refine wpAnyH_take (i := 3) (v := ?_) rfl (by kernel_rfl) (by kernel_rfl) (by kernel_rfl) (fun _ _ _ h => h) (Or.inl ⟨by rfl, ?_⟩) hS ?_
            rotate_left 1
            · intro w hSw; (try dsimp only at hSw); go_simp <;> with_reducible rfl
            try simp only [List.getElem_toArray, List.getElem_cons_zero, List.getElem_cons_succ, Act.put, List.setIfInBounds_toArray, List.set_cons_zero, List.set_cons_succ]
            refine wpAnyH_take (i := 4) (v := ?_) rfl (by kernel_rfl) (by kernel_rfl) (by kernel_rfl) (fun _ _ _ h => h) (Or.inl ⟨by rfl, ?_⟩) hS ?_
            rotate_left 1
            · intro w hSw; (try dsimp only at hSw); go_simp <;> with_reducible rfl
            try simp only [List.getElem_toArray, List.getElem_cons_zero, List.getElem_cons_succ, Act.put, List.setIfInBounds_toArray, List.set_cons_zero, List.set_cons_succ]
            refine wpAnyH_take (i := 5) (v := ?_) rfl (by kernel_rfl) (by kernel_rfl) (by kernel_rfl) (fun _ _ _ h => h) (Or.inl ⟨by rfl, ?_⟩) hS ?_
            rotate_left 1
            · intro w hSw; (try dsimp only at hSw); go_simp <;> with_reducible rfl
            try simp only [List.getElem_toArray, List.getElem_cons_zero, List.getElem_cons_succ, Act.put, List.setIfInBounds_toArray, List.set_cons_zero, List.set_cons_succ]
            refine wpAnyH_take (i := 7) (v := _) rfl (by kernel_rfl) (by kernel_rfl) (by kernel_rfl) (fun _ _ _ h => h) (yieldsIf_load_mid (by rfl) 26 (.tmp 10) rfl gx 0 rfl Xd (.array 32 5) (fun w' h => range_of_arr (Arr.later HX9.out h (Arr.lt HX9.out))) Tryd.underlying26 rfl (by rw [HXl.out]; exact size26)) hS ?_
            try simp only [List.getElem_toArray, List.getElem_cons_zero, List.getElem_cons_succ, Act.put, List.setIfInBounds_toArray, List.set_cons_zero, List.set_cons_succ]
            refine wpAnyH_ready (rs := [6]) (by kernel_rfl) (by simp) ?_
            refine AllReadyH.cons rfl (fun K hK => ?_) AllReadyH.nil
            go_simp
            refine Calls.mono (HCS.out _ hS) ?_
            rintro e wb ⟨rfl, hbb⟩
            have hS2 : Below w9.heap.size w9 wb := Below.trans hS (hbb.mono hS.size)
            clear hbb
            refine hK.out _ _ hS2 (fun hS => ?_)
            clear hK K hS2
            try simp only [List.getElem_toArray, List.getElem_cons_zero, List.getElem_cons_succ, Act.put, List.setIfInBounds_toArray, List.set_cons_zero, List.set_cons_succ]
            refine wpAnyH_take (i := 8) (v := ?_) rfl (by kernel_rfl) (by kernel_rfl) (by kernel_rfl) (fun _ _ _ h => h) (Or.inl ⟨by rfl, ?_⟩) hS ?_
            rotate_left 1
            · intro w hSw; (try dsimp only at hSw); go_simp <;> with_reducible rfl
            try simp only [List.getElem_toArray, List.getElem_cons_zero, List.getElem_cons_succ, Act.put, List.setIfInBounds_toArray, List.set_cons_zero, List.set_cons_succ]
            refine wpAnyH_take (i := 9) (v := ?_) rfl (by kernel_rfl) (by kernel_rfl) (by kernel_rfl) (fun _ _ _ h => h) (Or.inl ⟨by rfl, ?_⟩) hS ?_
            rotate_left 1
            · intro w hSw; (try dsimp only at hSw); go_simp <;> with_reducible rfl
            try simp only [List.getElem_toArray, List.getElem_cons_zero, List.getElem_cons_succ, Act.put, List.setIfInBounds_toArray, List.set_cons_zero, List.set_cons_succ]
            refine wpAnyH_done (by kernel_rfl) ?_ _
            have h7b : Below w7.heap.size w7 wb := HB9.out.trans (hS.mono HB9.out.size)
            have HFIN : Hid (wb.ownsRow w3.heap.size 5 1 (.slice a7 (cutAll ps (k + 1)).length c7) (m + 150) ((cutAll ps (k + 1)).map (Value.int .u8)) ∧ HashAt wb gh (nats (cutAll ps (k + 1))) ∧ HashAt wb go (mo ++ nats zs) ∧ Below W.heap.size W wb ∧ w3.heap.size ≤ wb.heap.size) :=
              ⟨World.ownsRow.kept HOW7.out ⟨h7b.os, h7b.tape, h7b.output, h7b.size, fun k hk _ => h7b.block k hk⟩ (row := none) (by cases (Value.slice a7 (cutAll ps (k + 1)).length c7).ownBlock <;> simp), HashAt.later HH7.out h7b (HashAt.lt HH7.out), HashAt.later HO7.out h7b (HashAt.lt HO7.out), HB7.out.trans (h7b.mono HB7.out.size), by have := h7b.size; omega⟩
            have HMN : Hid (m + 150 = (cutAll ps (k + 1)).length) := by show _ = _; rw [HNX.out, List.length_append, HPL.out, ← HM0.out]
            clear hS h7b heq HB9 HX9 HCS HHS HOW7 HRW7 HH7 HO7 HB7
            go_wp2
            go_roundw
            case rel => exact ⟨k + 1, m + 150, mo ++ nats zs, by omega, by go_num, HMN.out, HFIN.out.1, HFIN.out.2.1, HFIN.out.2.2.1, by rw [List.length_append]; simp [nats]; have := HL1.out; omega, HFIN.out.2.2.2.1, HFIN.out.2.2.2.2⟩
            case measure => simp [intOf]; omega
        · have hkn : k = n := by omega
          subst hkn
          have hd : decide ((k : Int) < (k : Int)) = false := by simp
          obtain ⟨aM, cM, hvM, hrowM, hcM, hmM, hnM⟩ := own_shape hown
          subst hvM
          have hcb := cutAll_byte HR.out.2 k
          have HSM : Hid _ := hashSum_any gh (nats (cutAll ps k)) wr (HT.out.1.later hBw htl) (by have := HGW.out; omega) hhh (by simp [nats]; have := HM0.out; omega)
          have HDG : Hid (∀ wd, Below wr.heap.size wr wd → Calls Tryd.prog 10 #[.slice (some ⟨wd.heap.size, 0, none⟩) 1 1] (wd.alloc (.cells #[.slice aM (cutAll ps k).length cM] 24)) fun e w2 => e = .returned (.agg (u8v (ShaMath.digest (nats (cutAll ps k)))).toArray) ∧ Below (wd.alloc (.cells #[.slice aM (cutAll ps k).length cM] 24)).heap.size (wd.alloc (.cells #[.slice aM (cutAll ps k).length cM] 24)) w2) := by
            intro wd h
            have hBd : Below W.heap.size W wd := hBw.trans (h.mono hBw.size)
            have := digest_any (some ⟨wd.heap.size, 0, none⟩) [⟨aM, cutAll ps k, cM⟩] 1 (wd.alloc (.cells ([⟨aM, cutAll ps k, cM⟩].map Part.val).toArray 24)) (RefTab.later HT.out.2 (hBd.alloc hBd.size _) htl) (by simp; have := hBd.size; omega) (lit_parts wd [⟨aM, cutAll ps k, cM⟩] 24 _ rfl (by intro p hp; simp at hp; subst hp; exact ⟨Row.later hrowM h, hcb, hcM, hmM⟩)) (by intro p hp; simp at hp; subst hp; exact hnM) (by simp) (by decide) (by simp [allB]; have := HM0.out; omega)
            simpa [allB, Part.val] using this
          have heq := eq_same _ (digest_len (nats (cutAll ps k)))
          have HBW : Hid _ := hBw
          generalize u8v (ShaMath.digest (nats (cutAll ps k))) = Dd at *
          generalize (cutAll ps k).length = mm at *
          clear hown hhh hho hrowM hcb hPW hBw HM0
          go_wp2_with fail
          refine Calls.mono HSM.out ?_
          rintro e wa ⟨rfl, hba⟩
          have HBa : Hid (Below W.heap.size W wa) := HBW.out.trans (hba.mono HBW.out.size)
          have HDa : Hid _ := HDG.out wa hba
          clear hba HDG
          go_wp2_with fail
          refine Calls.mono HDa.out ?_
          rintro e wb ⟨rfl, hbb⟩
          have HBb : Hid (Below W.heap.size W wb) := (HBa.out.alloc HBa.out.size _).trans (hbb.mono (by simp; have := HBa.out.size; omega))
          clear hbb
          go_wp2
          go_ret
          exact ⟨rfl, HBb.out⟩
    · have e1 : ¬ (12 : Int) < (n : Int) := by omega
      have e1' : (n : Int) ≤ 12 := by omega
      have e2 : (300 : Int) < (l1 : Int) := by omega
      go_wp2
      go_ret
      exact ⟨rfl, HB1.out⟩
  · have e1 : (12 : Int) < (n : Int) := by omega
    go_wp2
    go_ret
    exact ⟨rfl, HB1.out⟩

end Go.Proofs.YtfgpoclflikhmaaDoor

/-
  Walks of hlc's Next, Check, Witness, Floor, New.
-/
import Derived.Test.YtecijlgkadlmnaaFnHlcD
namespace Go.Proofs.Ytecijlgkadlmnaa
open Go.RowKit NumMath
open StMath (St)
open HlcMath (Ck)
set_option maxRecDepth 100000
set_option linter.unusedVariables false
set_option linter.unusedSimpArgs false

theorem next_cases (c : Ck) (now : Int) (s : St) (e : Int) (h : HlcMath.peek c now = (s, e)) :
    (e = 0 ∧ Hid (HlcMath.next c now = { c with s := s })) ∨ ((e == 0) = false ∧ Hid (HlcMath.next c now = c)) := by
  unfold HlcMath.next Hid
  rw [h]
  by_cases he : e = 0
  · left; simp [he]
  · right; simp [he]

set_option maxRecDepth 100000 in
set_option maxHeartbeats 8000000 in
theorem next_any (g : Nat) (c : Ck) (now : Int) (w : World) (hc : CkAt w g c) (ho : HlcMath.Ok c) :
    Calls Try.prog 16 #[.pointer (some ⟨g, 0, none⟩), .int .i64 now] w fun e w' => e = .returned (.tuple #[stV (HlcMath.peek c now).1, .int .i64 (HlcMath.peek c now).2]) ∧ CkAt w' g (HlcMath.next c now) ∧ w.grownBy w' (some g) := by
  have HA0 : Hid (StAt (w.alloc (.cells #[.int .i64 0, .int .i64 0, .int .i64 0] 32)) w.heap.size StMath.zero) := StAt.new w StMath.zero rfl
  have HB0 : Hid (Below w.heap.size w (w.alloc (.cells #[.int .i64 0, .int .i64 0, .int .i64 0] 32))) := (Below.refl _ _).alloc (Nat.le_refl _) _
  have HC0 : Hid (CkAt (w.alloc (.cells #[.int .i64 0, .int .i64 0, .int .i64 0] 32)) g c) := hc.alloc _
  have hg : g < w.heap.size := hc.lt
  have HP : Hid (∀ w, CkAt w g c → _) := fun w hc => peek_any g c now w hc ho
  clear hc ho
  obtain ⟨s, e, hpk⟩ : ∃ s e, HlcMath.peek c now = (s, e) := ⟨_, _, rfl⟩
  have hcs := next_cases c now s e hpk
  rw [hpk] at HP ⊢
  clear hpk
  unfold stV at HP
  dsimp only at HP ⊢
  go_enter Try.func16, Try.ntmps16
  go_wp2_with fail
  refine Calls.mono (HP.out _ HC0.out) ?_
  rintro e w2 ⟨rfl, hb2⟩
  have HA2 : Hid (StAt w2 w.heap.size StMath.zero) := HA0.out.later hb2 HA0.out.lt
  have HC2 : Hid (CkAt w2 g c) := HC0.out.later hb2 HC0.out.lt
  have HB2 : Hid (Below w.heap.size w w2) := HB0.out.trans (hb2.mono HB0.out.size)
  have hs2 : w.heap.size < w2.heap.size := HA2.out.lt
  have HX2 : Hid (StAt (w2.alloc (.cells #[.int .i64 0, .int .i64 0, .int .i64 0] 32)) w2.heap.size StMath.zero) := StAt.new w2 StMath.zero rfl
  have HX3 : Hid (StAt ((w2.alloc (.cells #[.int .i64 0, .int .i64 0, .int .i64 0] 32)).setRow w2.heap.size (stL s).toArray) w2.heap.size s) := StAt.row HX2.out
  have HA3 : Hid (StAt ((w2.alloc (.cells #[.int .i64 0, .int .i64 0, .int .i64 0] 32)).setRow w2.heap.size (stL s).toArray) w.heap.size StMath.zero) := StAt.row_other (HA2.out.alloc _) _ (by omega)
  have HC3 : Hid (CkAt ((w2.alloc (.cells #[.int .i64 0, .int .i64 0, .int .i64 0] 32)).setRow w2.heap.size (stL s).toArray) g c) := CkAt.row_other (HC2.out.alloc _) _ (by omega)
  have HB3 : Hid (Below w.heap.size w ((w2.alloc (.cells #[.int .i64 0, .int .i64 0, .int .i64 0] 32)).setRow w2.heap.size (stL s).toArray)) := below_setRow (HB2.out.alloc HB2.out.size _) (by omega) _
  clear HA0 HB0 HC0 HA2 HB2 hb2 HC2 HP
  go_upto_region 2 with (refine wpList_store_st rfl (.tmp 6) (.tmp 12) rfl w2.heap.size StMath.zero s rfl rfl HX2.out ?_)
  clear HX2
  generalize (w2.alloc (.cells #[.int .i64 0, .int .i64 0, .int .i64 0] 32)).setRow w2.heap.size (stL s).toArray = w3 at *
  have hlx : w2.heap.size < w3.heap.size := HX3.out.lt
  generalize w2.heap.size = gl at *
  generalize hga : w.heap.size = ga at HA3 hs2 hg ⊢
  rcases hcs with ⟨rfl, H⟩ | ⟨he, H⟩
  · have HC4 : Hid (CkAt (w3.setRow g (ckL { c with s := s }).toArray) g { c with s := s }) := CkAt.row HC3.out
    have HX4 : Hid (StAt (w3.setRow g (ckL { c with s := s }).toArray) gl s) := StAt.row_other HX3.out _ (by omega)
    have HA4 : Hid (StAt (w3.setRow g (ckL { c with s := s }).toArray) ga StMath.zero) := StAt.row_other HA3.out _ (by omega)
    have HG4 : Hid (w.grownBy (w3.setRow g (ckL { c with s := s }).toArray) (some g)) := gr_setRow (gr_of _ HB3.out) _
    go_wp2_with (first
      | refine wpList_load_mid rfl 32 (.tmp 6) rfl gl 0 rfl (stL s) _ (range_of_arr HX3.out.arr) Try.underlying32 rfl sizeSt ?_
      | refine wpList_store_last rfl (.tmp 19) (.tmp 17) rfl g c s rfl rfl HC3.out ?_
      | refine wpList_load_mid rfl 32 (.tmp 6) rfl gl 0 rfl (stL s) _ (range_of_arr HX4.out.arr) Try.underlying32 rfl sizeSt ?_
      | refine wpList_store_st rfl (.tmp 4) (.tmp 20) rfl ga StMath.zero s rfl rfl HA4.out ?_)
    refine ret_st ga s (.int .i64 0) rfl rfl rfl (StAt.row HA4.out) rfl ⟨rfl, ?_, ?_⟩
    · rw [H.out]; exact CkAt.row_other HC4.out _ (by omega)
    · exact gr_new HG4.out (by omega) _
  · go_wp2_with (first
      | refine wpList_load_mid rfl 32 (.tmp 6) rfl gl 0 rfl (stL s) _ (range_of_arr HX3.out.arr) Try.underlying32 rfl sizeSt ?_
      | refine wpList_store_st rfl (.tmp 4) (.tmp 20) rfl ga StMath.zero s rfl rfl HA3.out ?_)
    refine ret_st ga s (.int .i64 e) rfl rfl rfl (StAt.row HA3.out) rfl ⟨rfl, ?_, ?_⟩
    · rw [H.out]; exact CkAt.row_other HC3.out _ (by omega)
    · exact gr_new (gr_of _ HB3.out) (by omega) _

theorem check_cases (c : Ck) (now : Int) (s : St) :
    (HlcMath.isPhys now = false ∧ Hid (HlcMath.check c now s = 24)) ∨ (HlcMath.isPhys now = true ∧ StMath.right s = false ∧ Hid (HlcMath.check c now s = 21)) ∨
    (HlcMath.isPhys now = true ∧ StMath.right s = true ∧ decide (now + c.d < s.p) = true ∧ Hid (HlcMath.check c now s = 28)) ∨
    (HlcMath.isPhys now = true ∧ StMath.right s = true ∧ decide (now + c.d < s.p) = false ∧ Hid (HlcMath.check c now s = 0)) := by
  unfold HlcMath.check Hid
  cases h : HlcMath.isPhys now <;> cases h2 : StMath.right s <;> by_cases h3 : now + c.d < s.p <;> simp [h3] <;> omega

set_option maxRecDepth 100000 in
set_option maxHeartbeats 8000000 in
theorem check_any (g : Nat) (c : Ck) (now : Int) (s : St) (w : World) (hc : CkAt w g c) (ho : HlcMath.Ok c) :
    Calls Try.prog 19 #[.pointer (some ⟨g, 0, none⟩), .int .i64 now, stV s] w fun e w' => e = .returned (.int .i64 (HlcMath.check c now s)) ∧ Below w.heap.size w w' := by
  have HA0 : Hid (StAt (w.alloc (.cells #[.int .i64 s.p, .int .i64 s.l, .int .i64 s.r] 32)) w.heap.size s) := StAt.new w s rfl
  have HB0 : Hid (Below w.heap.size w (w.alloc (.cells #[.int .i64 s.p, .int .i64 s.l, .int .i64 s.r] 32))) := (Below.refl _ _).alloc (Nat.le_refl _) _
  have HC0 : Hid (CkAt (w.alloc (.cells #[.int .i64 s.p, .int .i64 s.l, .int .i64 s.r] 32)) g c) := hc.alloc _
  have HP : Hid (∀ w, _) := fun w => isPhys_any now w
  have HR : Hid (∀ w, _) := fun w => stRight_any s w
  have HI : Hid (∀ w, CkAt w g c → 0 ≤ now → now ≤ 281474976710655 → _) := fun w hc h0 h1 => isAhead_any g c now s w hc ho h0 h1
  clear hc ho
  unfold stV at HR HI ⊢
  rcases check_cases c now s with ⟨h1, H⟩ | ⟨h1, h2, H⟩ | ⟨h1, h2, h3, H⟩ | ⟨h1, h2, h3, H⟩
  · rw [h1] at HP
    clear h1 HR HI
    go_enter Try.func19, Try.ntmps19
    go_wp2_with fail
    refine Calls.mono (HP.out _) ?_
    rintro e w1 ⟨rfl, rfl⟩
    go_wp2
    go_ret
    rw [H.out]
    exact ⟨rfl, HB0.out⟩
  · rw [h1] at HP
    rw [h2] at HR
    clear h1 h2 HI
    go_enter Try.func19, Try.ntmps19
    go_wp2_with fail
    refine Calls.mono (HP.out _) ?_
    rintro e w1 ⟨rfl, rfl⟩
    go_wp2_with (refine wpList_load_mid rfl 32 (.tmp 5) rfl w.heap.size 0 rfl (stL s) _ (range_of_arr HA0.out.arr) Try.underlying32 rfl sizeSt ?_)
    refine Calls.mono (HR.out _) ?_
    rintro e w2 ⟨rfl, hb2⟩
    have HB2 : Hid (Below w.heap.size w w2) := HB0.out.trans (hb2.mono HB0.out.size)
    clear hb2
    go_wp2
    go_ret
    rw [H.out]
    exact ⟨rfl, HB2.out⟩
  all_goals
    have hp := HlcMath.isPhys_iff.1 h1
    have HI2 : Hid (∀ w, CkAt w g c → _) := fun w hc => HI.out w hc hp.1 hp.2
    rw [h1] at HP
    rw [h2] at HR
    rw [h3] at HI2
    clear h1 h2 h3 HI hp
    go_enter Try.func19, Try.ntmps19
    go_wp2_with fail
    refine Calls.mono (HP.out _) ?_
    rintro e w1 ⟨rfl, rfl⟩
    go_wp2_with (refine wpList_load_mid rfl 32 (.tmp 5) rfl w.heap.size 0 rfl (stL s) _ (range_of_arr HA0.out.arr) Try.underlying32 rfl sizeSt ?_)
    refine Calls.mono (HR.out _) ?_
    rintro e w2 ⟨rfl, hb2⟩
    have HA2 : Hid (StAt w2 w.heap.size s) := HA0.out.later hb2 HA0.out.lt
    have HC2 : Hid (CkAt w2 g c) := HC0.out.later hb2 HC0.out.lt
    have HB2 : Hid (Below w.heap.size w w2) := HB0.out.trans (hb2.mono HB0.out.size)
    clear hb2
    go_wp2_with (refine wpList_load_mid rfl 32 (.tmp 5) rfl w.heap.size 0 rfl (stL s) _ (range_of_arr HA2.out.arr) Try.underlying32 rfl sizeSt ?_)
    refine Calls.mono (HI2.out _ HC2.out) ?_
    rintro e w3 ⟨rfl, hb3⟩
    have HB3 : Hid (Below w.heap.size w w3) := HB2.out.trans (hb3.mono HB2.out.size)
    clear hb3
    go_wp2
    go_ret
    rw [H.out]
    exact ⟨rfl, HB3.out⟩

theorem witness_cases (c : Ck) (now : Int) (s : St) (e : Int) (h : HlcMath.check c now s = e) :
    (e = 0 ∧ Hid (HlcMath.witness c now s = HlcMath.raise c s.p s.l)) ∨ ((e == 0) = false ∧ Hid (HlcMath.witness c now s = c)) := by
  unfold HlcMath.witness Hid
  rw [h]
  by_cases he : e = 0
  · left; simp [he]
  · right; simp [he]
set_option maxRecDepth 100000 in
set_option maxHeartbeats 8000000 in
theorem witness_any (g : Nat) (c : Ck) (now : Int) (s : St) (w : World) (hc : CkAt w g c) (ho : HlcMath.Ok c) :
    Calls Try.prog 13 #[.pointer (some ⟨g, 0, none⟩), .int .i64 now, stV s] w fun e w' => e = .returned (.int .i64 (HlcMath.check c now s)) ∧ CkAt w' g (HlcMath.witness c now s) ∧ w.grownBy w' (some g) := by
  have HA0 : Hid (StAt (w.alloc (.cells #[.int .i64 s.p, .int .i64 s.l, .int .i64 s.r] 32)) w.heap.size s) := StAt.new w s rfl
  have HB0 : Hid (Below w.heap.size w (w.alloc (.cells #[.int .i64 s.p, .int .i64 s.l, .int .i64 s.r] 32))) := (Below.refl _ _).alloc (Nat.le_refl _) _
  have HC0 : Hid (CkAt (w.alloc (.cells #[.int .i64 s.p, .int .i64 s.l, .int .i64 s.r] 32)) g c) := hc.alloc _
  have HK : Hid (∀ w, CkAt w g c → _) := fun w hc => check_any g c now s w hc ho
  have HO : Hid (∀ w, CkAt w g c → _) := fun w hc => own_any g c s.p s.l w hc
  have HR : Hid (∀ w, CkAt w g c → _) := fun w hc => raise_any g c s.p s.l w hc
  clear hc ho
  obtain ⟨e, hk⟩ : ∃ e, HlcMath.check c now s = e := ⟨_, rfl⟩
  have hcs := witness_cases c now s e hk
  rw [hk] at HK ⊢
  clear hk
  unfold stV at HK HO HR ⊢
  dsimp only at HO HR
  go_enter Try.func13, Try.ntmps13
  go_wp2_with (refine wpList_load_mid rfl 32 (.tmp 5) rfl w.heap.size 0 rfl (stL s) _ (range_of_arr HA0.out.arr) Try.underlying32 rfl sizeSt ?_)
  refine Calls.mono (HK.out _ HC0.out) ?_
  rintro e w2 ⟨rfl, hb2⟩
  have HA2 : Hid (StAt w2 w.heap.size s) := HA0.out.later hb2 HA0.out.lt
  have HC2 : Hid (CkAt w2 g c) := HC0.out.later hb2 HC0.out.lt
  have HB2 : Hid (Below w.heap.size w w2) := HB0.out.trans (hb2.mono HB0.out.size)
  clear hb2 HA0 HB0 HC0
  rcases hcs with ⟨rfl, H⟩ | ⟨he, H⟩
  · obtain ⟨k0, k1, k2⟩ := HA2.out.cells
    go_wp2_with fail
    refine Calls.mono (HO.out _ HC2.out) ?_
    rintro e w3 ⟨rfl, hb3⟩
    have HC3 : Hid (CkAt w3 g c) := HC2.out.later hb3 HC2.out.lt
    have HB3 : Hid (Below w.heap.size w w3) := HB2.out.trans (hb3.mono HB2.out.size)
    clear hb3 k0 k1 k2
    go_wp2_with fail
    refine Calls.mono (HR.out _ HC3.out) ?_
    rintro e w4 ⟨rfl, hc4, hg4⟩
    have HC4 : Hid _ := hc4
    have HG4 : Hid (w.grownBy w4 (some g)) := gr_both (gr_of _ HB3.out) hg4
    clear hc4 hg4
    go_wp2
    go_ret
    rw [H.out]
    exact ⟨rfl, HC4.out, HG4.out⟩
  · go_wp2
    go_ret
    rw [H.out]
    exact ⟨rfl, HC2.out, gr_of _ HB2.out⟩

theorem held_cases (p : Int) : (p < 0 ∧ Hid (HlcMath.held p = 0)) ∨ (281474976710655 < p ∧ Hid (HlcMath.held p = 281474976710655)) ∨ ((0 ≤ p ∧ p ≤ 281474976710655) ∧ Hid (HlcMath.held p = p)) := by
  unfold HlcMath.held Hid
  by_cases h : p < 0
  · left; exact ⟨h, by rw [if_pos h]⟩
  · by_cases h2 : 281474976710655 < p
    · right; left; exact ⟨h2, by rw [if_neg h, if_pos h2]⟩
    · right; right; exact ⟨⟨by omega, by omega⟩, by rw [if_neg h, if_neg h2]⟩
set_option maxRecDepth 100000 in
set_option maxHeartbeats 8000000 in
theorem floor_any (g : Nat) (c : Ck) (p : Int) (w : World) (hc : CkAt w g c) :
    Calls Try.prog 15 #[.pointer (some ⟨g, 0, none⟩), .int .i64 p] w fun e w' => e = .returned (.tuple #[]) ∧ CkAt w' g (HlcMath.floor c p) ∧ w.grownBy w' (some g) := by
  unfold HlcMath.floor
  have HC0 : Hid (CkAt w g c) := hc
  obtain ⟨k0, k1, k2, k3, k4⟩ := hc.cells
  have HO : Hid (∀ q w, CkAt w g c → _) := fun q w hc => own_any g c q c.m w hc
  have HR : Hid (∀ q w, CkAt w g c → _) := fun q w hc => raise_any g c q c.m w hc
  unfold stV at HO HR
  dsimp only at HO HR
  clear hc k0 k1 k2 k4
  rcases held_cases p with ⟨h, H⟩ | ⟨h, H⟩ | ⟨⟨h, h2⟩, H⟩
  all_goals
    rw [H.out]
    go_enter Try.func15, Try.ntmps15
    go_wp2_with fail
    refine Calls.mono (HO.out _ _ HC0.out) ?_
    rintro e w3 ⟨rfl, hb3⟩
    have HC3 : Hid (CkAt w3 g c) := HC0.out.later hb3 HC0.out.lt
    have HB3 : Hid (Below w.heap.size w w3) := hb3
    clear hb3
    go_wp2_with fail
    refine Calls.mono (HR.out _ _ HC3.out) ?_
    rintro e w4 ⟨rfl, hc4, hg4⟩
    have HC4 : Hid _ := hc4
    have HG4 : Hid (w.grownBy w4 (some g)) := gr_both (gr_of _ HB3.out) hg4
    clear hc4 hg4
    go_wp2
    refine bodyPost_end (v := .tuple #[]) (by simp [results, Try.results15]) rfl ?_
    exact ⟨rfl, HC4.out, HG4.out⟩
end Go.Proofs.Ytecijlgkadlmnaa

/-
  FnEntE, FnRefEB.
-/
import Derived.Test.YteockpllnhjooaaGreatDoorQL23
import Derived.Test.YteockpllnhjooaaGreatDoorQL38
import Derived.Test.YteockpllnhjooaaGreatDoorQL33
namespace EntMath
def after (l : List (List Nat)) (t : List (List Nat) × List Int × Nat) : List (List Nat) × List Int × Nat := if t.2.2 ≠ 0 then ([], [], t.2.2) else (l ++ t.1, t.2.1, 0)
theorem after_nil (k : Nat) (zs : List Int) : after [] (texts k zs) = texts k zs := by
  unfold after
  split
  · rename_i h
    cases k with
    | zero => exact absurd rfl h
    | succ k =>
      rw [texts] at h ⊢
      split
      · rfl
      · rename_i h1
        rw [if_neg h1] at h
        split
        · rfl
        · rename_i h2; rw [if_neg h2] at h; exact absurd rfl h
  · rename_i h
    have : (texts k zs).2.2 = 0 := by simpa using h
    rw [← this]; simp
theorem after_step {l : List (List Nat)} {k : Nat} {r r' : List Int} {s : List Nat} (h : takeT r = (s, r', 0)) : after l (texts (k + 1) r) = after (l ++ [s]) (texts k r') := by
  rw [texts_succ h]
  unfold after
  by_cases h2 : (texts k r').2.2 ≠ 0
  · rw [if_pos h2, if_pos h2, if_pos h2]
  · rw [if_neg h2, if_neg h2, if_neg (by simp)]; simp
theorem after_stop {l : List (List Nat)} {k : Nat} {r : List Int} {n : Nat} (h : takeT r = ([], [], n)) (hn : n ≠ 0) : after l (texts (k + 1) r) = ([], [], n) := by
  rw [texts_stop h hn]
  unfold after
  rw [if_pos hn]
end EntMath
namespace Go.Proofs.YteockpllnhjooaaGreatDoor
open Go.RowKit NumMath
open EntMath (E takeT texts ofTexts after)
set_option maxRecDepth 100000
set_option linter.unusedVariables false
set_option linter.unusedSimpArgs false

theorem ofTexts_set (l : List (List Nat)) (s : List Nat) (h : l.length < 5) : (entL (ofTexts l 0)).set l.length (.string (strN s)) = entL (ofTexts (l ++ [s]) 0) := by
  match l, h with
  | [], _ => rfl
  | [a], _ => rfl
  | [a, b], _ => rfl
  | [a, b, c], _ => rfl
  | [a, b, c, d], _ => rfl
theorem ofTexts_cell (l : List (List Nat)) (h : l.length < 5) : (entL (ofTexts l 0))[l.length]? = some (.string (strN [])) := by
  match l, h with
  | [], _ => rfl
  | [a], _ => rfl
  | [a, b], _ => rfl
  | [a, b, c], _ => rfl
  | [a, b, c, d], _ => rfl
theorem ofTexts_time (l : List (List Nat)) (v : Int) : (entL (ofTexts l 0)).set 5 (.int .i64 v) = entL (ofTexts l v) := rfl
def ptrs (G : Nat) : List Value := [.pointer (some ⟨G, 0, none⟩), .pointer (some ⟨G, 1, none⟩), .pointer (some ⟨G, 2, none⟩), .pointer (some ⟨G, 3, none⟩), .pointer (some ⟨G, 4, none⟩)]
theorem ptrs_at (G k : Nat) (hk : k < 5) : (ptrs G)[k]? = some (.pointer (some ⟨G, k, none⟩)) := by
  match k, hk with
  | 0, _ => rfl
  | 1, _ => rfl
  | 2, _ => rfl
  | 3, _ => rfl
  | 4, _ => rfl
structure PtrAt (w : World) (g G : Nat) : Prop where
  arr : Arr w g 74 (ptrs G)

theorem wrap_time {v : Int} (h0 : 0 ≤ v) (h1 : v ≤ 18446744073709551615) : (v ≤ 281474976710655 → IntKind.i64.wrap v = v) ∧ (281474976710655 < v → IntKind.i64.wrap v < 0 ∨ 281474976710655 < IntKind.i64.wrap v) ∧ -9223372036854775808 ≤ IntKind.i64.wrap v ∧ IntKind.i64.wrap v ≤ 9223372036854775807 := by
  rw [IntKind.wrap_i64]
  omega
theorem ofTexts_fit {l : List (List Nat)} {v : Int} (hb : ∀ s ∈ l, ∀ c ∈ s, c < 256) (hl : ∀ s ∈ l, s.length ≤ 10000) (h0 : -9223372036854775808 ≤ v) (h1 : v ≤ 9223372036854775807) : EFit (ofTexts l v) := by
  have hx : ∀ i : Nat, (∀ c ∈ l[i]?.getD [], c < 256) ∧ (l[i]?.getD []).length ≤ 10000 := by
    intro i
    cases h : l[i]? with
    | none => simp
    | some x => exact ⟨hb x (List.mem_of_getElem? h), hl x (List.mem_of_getElem? h)⟩
  exact ⟨(hx 0).1, (hx 1).1, (hx 2).1, (hx 3).1, (hx 4).1, (hx 0).2, (hx 1).2, (hx 2).2, (hx 3).2, (hx 4).2, h0, h1⟩
theorem not_right_time {e : E} (h : e.time < 0 ∨ 281474976710655 < e.time) : EntMath.right e = false := by
  cases hr : EntMath.right e with
  | false => rfl
  | true => have hf := EntMath.right_fit hr; have := hf.t0; have := hf.t1; omega

set_option maxHeartbeats 16000000 in
theorem entRead_any (a : Option Addr) (zs : List Int) (cap : Nat) (w : World) (ht : MaxLen w) (hR : Rest w a zs cap) (hb : ∀ c ∈ zs, 0 ≤ c ∧ c ≤ 255) (hS : ∀ s ∈ (texts 5 zs).1, s.length ≤ 10000) :
    Calls Tryz.prog 21 #[.slice a zs.length cap] w fun r w' => r = .returned (.tuple #[entV (EntMath.read zs).1, .int .i64 ((EntMath.read zs).2 : Int)]) ∧ Below w.heap.size w w' := by
  have HT0 : Hid _ := ht
  have HR0 : Hid _ := hR
  have HZ : Hid (EntAt (w.alloc (.cells #[.string ⟨#[]⟩, .string ⟨#[]⟩, .string ⟨#[]⟩, .string ⟨#[]⟩, .string ⟨#[]⟩, .int .i64 0] 23)) w.heap.size EntMath.zero) := EntAt.new w EntMath.zero
  have HB0 : Hid _ := hb
  have HS0 : Hid _ := hS
  clear ht hR hb hS
  go_enter Tryz.func21, Tryz.ntmps21
  go_wp2
  generalize hG2 : w.heap.size + 1 = G2 at *
  generalize hG3 : G2 + 1 = G3 at *
  have HGs : Hid (w.heap.size < G2 ∧ G2 < G3) := ⟨by omega, by omega⟩
  have HA0 : Hid (EntAt (((w.alloc (.cells #[.string ⟨#[]⟩, .string ⟨#[]⟩, .string ⟨#[]⟩, .string ⟨#[]⟩, .string ⟨#[]⟩, .int .i64 0] 23)).alloc (.cells #[.string ⟨#[]⟩, .string ⟨#[]⟩, .string ⟨#[]⟩, .string ⟨#[]⟩, .string ⟨#[]⟩, .int .i64 0] 23)).alloc (.cells #[.pointer (some ⟨G2, 0, none⟩), .pointer (some ⟨G2, 1, none⟩), .pointer (some ⟨G2, 2, none⟩), .pointer (some ⟨G2, 3, none⟩), .pointer (some ⟨G2, 4, none⟩)] 74)) w.heap.size EntMath.zero) := (HZ.out.alloc _).alloc _
  have HE0 : Hid (EntAt (((w.alloc (.cells #[.string ⟨#[]⟩, .string ⟨#[]⟩, .string ⟨#[]⟩, .string ⟨#[]⟩, .string ⟨#[]⟩, .int .i64 0] 23)).alloc (.cells #[.string ⟨#[]⟩, .string ⟨#[]⟩, .string ⟨#[]⟩, .string ⟨#[]⟩, .string ⟨#[]⟩, .int .i64 0] 23)).alloc (.cells #[.pointer (some ⟨G2, 0, none⟩), .pointer (some ⟨G2, 1, none⟩), .pointer (some ⟨G2, 2, none⟩), .pointer (some ⟨G2, 3, none⟩), .pointer (some ⟨G2, 4, none⟩)] 74)) G2 (ofTexts [] 0)) := by
    have h : EntAt ((w.alloc (.cells #[.string ⟨#[]⟩, .string ⟨#[]⟩, .string ⟨#[]⟩, .string ⟨#[]⟩, .string ⟨#[]⟩, .int .i64 0] 23)).alloc (.cells #[.string ⟨#[]⟩, .string ⟨#[]⟩, .string ⟨#[]⟩, .string ⟨#[]⟩, .string ⟨#[]⟩, .int .i64 0] 23)) G2 (ofTexts [] 0) := ⟨Arr.new _ _ (entL (ofTexts [] 0)) (by simp; omega)⟩
    exact h.alloc _
  have HPt0 : Hid (PtrAt (((w.alloc (.cells #[.string ⟨#[]⟩, .string ⟨#[]⟩, .string ⟨#[]⟩, .string ⟨#[]⟩, .string ⟨#[]⟩, .int .i64 0] 23)).alloc (.cells #[.string ⟨#[]⟩, .string ⟨#[]⟩, .string ⟨#[]⟩, .string ⟨#[]⟩, .string ⟨#[]⟩, .int .i64 0] 23)).alloc (.cells #[.pointer (some ⟨G2, 0, none⟩), .pointer (some ⟨G2, 1, none⟩), .pointer (some ⟨G2, 2, none⟩), .pointer (some ⟨G2, 3, none⟩), .pointer (some ⟨G2, 4, none⟩)] 74)) G3 G2) := ⟨Arr.new _ _ (ptrs G2) (by simp; omega)⟩
  have HBw0 : Hid _ := ((((Below.refl w.heap.size w).alloc (Nat.le_refl _) (.cells #[.string ⟨#[]⟩, .string ⟨#[]⟩, .string ⟨#[]⟩, .string ⟨#[]⟩, .string ⟨#[]⟩, .int .i64 0] 23)).alloc (by simp) (.cells #[.string ⟨#[]⟩, .string ⟨#[]⟩, .string ⟨#[]⟩, .string ⟨#[]⟩, .string ⟨#[]⟩, .int .i64 0] 23)).alloc (by simp; omega) (.cells #[.pointer (some ⟨G2, 0, none⟩), .pointer (some ⟨G2, 1, none⟩), .pointer (some ⟨G2, 2, none⟩), .pointer (some ⟨G2, 3, none⟩), .pointer (some ⟨G2, 4, none⟩)] 74))
  clear HZ hG2 hG3
  generalize World.alloc (World.alloc (World.alloc w _) _) _ = W0 at *
  go_loopw [0, 18] (fun t0 i wr => ∃ (k : Nat) (l : List (List Nat)) (ao : Option Addr) (r : List Int) (c : Nat), k ≤ 5 ∧ i = .int .i64 (k : Int) ∧ t0 = .slice ao r.length c ∧ l.length = k ∧ EntAt wr G2 (ofTexts l 0) ∧ EntAt wr w.heap.size EntMath.zero ∧ PtrAt wr G3 G2 ∧ Below w.heap.size w wr ∧ Rest w ao r c ∧ (∀ c ∈ r, 0 ≤ c ∧ c ≤ 255) ∧ texts 5 zs = after l (texts (5 - k) r)) (fun _ i _ => 5 - (intOf i).toNat)
  case atStart => exact ⟨0, [], a, zs, cap, by omega, rfl, rfl, rfl, HE0.out, HA0.out, HPt0.out, HBw0.out, HR0.out, HB0.out, (EntMath.after_nil 5 zs).symm⟩
  case round =>
    clear HE0 HA0 HPt0 HBw0
    obtain ⟨k, l, ao, r, c, hk, rfl, rfl, hl, hE, hA, hP, hBw, hRr, hbr, htx⟩ := hrel
    have HTr : Hid (MaxLen wr) := MaxLen.later HT0.out hBw
    have HTk : Hid _ := takeText_any ao r c wr (hRr.later hBw) hbr
    have HE : Hid _ := hE
    have HA : Hid _ := hA
    have HBw : Hid _ := hBw
    have HRr : Hid _ := hRr
    have HX : Hid _ := htx
    have HL : Hid _ := hl
    have HBr : Hid _ := hbr
    have HP : Hid _ := hP
    by_cases hlt : k < 5
    · have hpc := (Arr.cell hP.arr k).trans (ptrs_at G2 k hlt)
      clear hE hA hP hBw hRr hbr htx hl
      go_wp2_with fail
      refine Calls.mono HTk.out ?_
      rintro e w1 ⟨hb1, hcases⟩
      have HE1 : Hid _ := HE.out.later hb1 HE.out.lt
      have HA1 : Hid _ := HA.out.later hb1 HA.out.lt
      have HP1 : Hid (PtrAt w1 G3 G2) := ⟨Arr.later HP.out.arr hb1 HP.out.arr.lt⟩
      have HB1 : Hid _ := HBw.out.trans (hb1.mono HBw.out.size)
      have hcell : w1.cell? ⟨G2, k, none⟩ = some (.string (strN [])) := by
        have h1 := Arr.cell HE1.out.arr k
        have h2 := ofTexts_cell l (by have := HL.out; omega)
        rw [HL.out] at h2
        rw [h1, h2]
      have hfz := HE1.out.frozen k
      have hlt1 := HE1.out.lt
      clear hb1 HE HA HP HBw HTk
      rcases hcases with ⟨hc0, ao', c', rfl, hRest⟩ | ⟨hc0, rfl⟩ | ⟨hc0, rfl⟩
      · have HC0 : Hid _ := hc0
        have HRest : Hid _ := hRest
        clear hc0 hRest
        go_wp2
        refine ⟨⟨k + 1, l ++ [(takeT r).1], ao', (takeT r).2.1, c', by omega, by go_num, rfl, by simp [HL.out], ?_, ?_, ?_, HB1.out.setCell (by have := HGs.out; show w.heap.size ≤ G2; omega) _, HRest.out _ HRr.out, ?_, ?_⟩, by simp [intOf]; omega⟩
        · have h1 := Arr.set HE1.out.arr k (.string (strN (takeT r).1))
          have h2 := ofTexts_set l (takeT r).1 (by have := HL.out; omega)
          rw [HL.out] at h2
          rw [h2] at h1
          exact ⟨h1⟩
        · exact ⟨Arr.set_other HA1.out.arr _ (by have := HGs.out; show w.heap.size ≠ G2; omega) _⟩
        · exact ⟨Arr.set_other HP1.out.arr _ (by have := HGs.out; show G3 ≠ G2; omega) _⟩
        · exact (EntMath.takeT_one r HBr.out HC0.out).2.2.2.1
        · have h5 : 5 - k = (5 - (k + 1)) + 1 := by omega
          rw [HX.out, h5]
          exact EntMath.after_step (by rw [← HC0.out])
      · have HQ : Hid (EntMath.read zs = (EntMath.zero, 20)) := by
          show _ = _
          have h5 : 5 - k = (5 - (k + 1)) + 1 := by omega
          have h6 := HX.out
          rw [h5, EntMath.after_stop hc0 (by decide)] at h6
          unfold EntMath.read
          rw [h6]; rfl
        clear hc0
        go_wp2_with (refine wpList_store_ent rfl (.tmp 2) (.tmp 32) rfl w.heap.size EntMath.zero EntMath.zero rfl rfl ⟨Arr.set_other HA1.out.arr _ (by have := HGs.out; show w.heap.size ≠ G2; omega) _⟩ ?_)
        refine ret_ent w.heap.size EntMath.zero (.int .i64 20) rfl rfl rfl (EntAt.row ⟨Arr.set_other HA1.out.arr _ (by have := HGs.out; show w.heap.size ≠ G2; omega) _⟩) rfl ⟨by rw [HQ.out]; rfl, below_setRow (HB1.out.setCell (by have := HGs.out; show w.heap.size ≤ G2; omega) _) (Nat.le_refl _) _⟩
      · have HQ : Hid (EntMath.read zs = (EntMath.zero, 21)) := by
          show _ = _
          have h5 : 5 - k = (5 - (k + 1)) + 1 := by omega
          have h6 := HX.out
          rw [h5, EntMath.after_stop hc0 (by decide)] at h6
          unfold EntMath.read
          rw [h6]; rfl
        clear hc0
        go_wp2_with (refine wpList_store_ent rfl (.tmp 2) (.tmp 32) rfl w.heap.size EntMath.zero EntMath.zero rfl rfl ⟨Arr.set_other HA1.out.arr _ (by have := HGs.out; show w.heap.size ≠ G2; omega) _⟩ ?_)
        refine ret_ent w.heap.size EntMath.zero (.int .i64 21) rfl rfl rfl (EntAt.row ⟨Arr.set_other HA1.out.arr _ (by have := HGs.out; show w.heap.size ≠ G2; omega) _⟩) rfl ⟨by rw [HQ.out]; rfl, below_setRow (HB1.out.setCell (by have := HGs.out; show w.heap.size ≤ G2; omega) _) (Nat.le_refl _) _⟩
    · obtain rfl : k = 5 := by omega
      clear hk hlt
      have htx2 : texts 5 zs = (l, r, 0) := by
        rw [htx]; show after l ([], r, 0) = _
        unfold EntMath.after; rw [if_neg (by simp)]; simp
      have hrd : EntMath.read zs = EntMath.readE l r := by
        unfold EntMath.read; rw [htx2]; rfl
      obtain ⟨_, _, hlb, _, _⟩ := EntMath.texts_one 5 zs HB0.out (by rw [htx2])
      have hls := HS0.out
      rw [htx2] at hlb hls
      simp only at hlb hls
      have hT := take_any ao r c wr (Row.later hRr.row hBw) hbr hRr.len hRr.lim
      have hrl := hRr.len
      have hrc := hRr.lim
      have hrci : (r.length : Int) ≤ 9223372036854775807 := by unfold maxLen at hrc; omega
      clear hE hA hP hBw hRr htx HX HTk hl
      rcases tak_cases r hbr with h | h | ⟨j, v, hj, hjl, hv0, hv1, h, hD⟩
      · have HQ : Hid (EntMath.read zs = (EntMath.zero, 20)) := by show _ = _; rw [hrd]; unfold EntMath.readE; rw [h]; rfl
        rw [h] at hT
        unfold takV at hT
        have HT : Hid _ := hT
        clear hT h hbr hlb hls htx2 hrd
        go_wp2_with fail
        refine Calls.mono HT.out ?_
        rintro e w1 ⟨rfl, hw1⟩
        subst w1
        go_wp2_with (refine wpList_store_ent rfl (.tmp 2) (.tmp 43) rfl w.heap.size EntMath.zero EntMath.zero rfl rfl HA.out ?_)
        refine ret_ent w.heap.size EntMath.zero (.int .i64 20) rfl rfl rfl (EntAt.row HA.out) rfl ⟨by rw [HQ.out]; rfl, below_setRow HBw.out (Nat.le_refl _) _⟩
      · have HQ : Hid (EntMath.read zs = (EntMath.zero, 21)) := by show _ = _; rw [hrd]; unfold EntMath.readE; rw [h]; rfl
        rw [h] at hT
        unfold takV at hT
        have HT : Hid _ := hT
        clear hT h hbr hlb hls htx2 hrd
        go_wp2_with fail
        refine Calls.mono HT.out ?_
        rintro e w1 ⟨rfl, hw1⟩
        subst w1
        go_wp2_with (refine wpList_store_ent rfl (.tmp 2) (.tmp 43) rfl w.heap.size EntMath.zero EntMath.zero rfl rfl HA.out ?_)
        refine ret_ent w.heap.size EntMath.zero (.int .i64 21) rfl rfl rfl (EntAt.row HA.out) rfl ⟨by rw [HQ.out]; rfl, below_setRow HBw.out (Nat.le_refl _) _⟩
      · obtain ⟨n, hn⟩ : ∃ n, n = j + 1 := ⟨_, rfl⟩
        obtain ⟨m, hm⟩ : ∃ m : Nat, v = (m : Int) := ⟨v.toNat, by omega⟩
        subst hm
        rw [show (j : Int) + 1 = (n : Int) by omega] at h
        rw [h] at hT
        unfold takV at hT
        have HT : Hid _ := hT
        obtain ⟨hw1, hw2, hw3, hw4⟩ := wrap_time hv0 hv1
        have hfit := ofTexts_fit (v := IntKind.i64.wrap (m : Int)) hlb hls hw3 hw4
        have hrd2 : EntMath.read zs = if 281474976710655 < (m : Int) ∨ (n : Int) < (r.length : Int) then (EntMath.zero, 21) else if EntMath.right (ofTexts l (m : Int)) = true then (ofTexts l (m : Int), 0) else (EntMath.zero, 21) := by
          rw [hrd]; unfold EntMath.readE; rw [h]; simp
        have hF5 := HE.out.frozen 5
        have hcell5 := (HE.out.cells).2.2.2.2.2
        have HE2 : Hid (EntAt (wr.setCell ⟨G2, 5, none⟩ (.int .i64 (IntKind.i64.wrap (m : Int)))) G2 (ofTexts l (IntKind.i64.wrap (m : Int)))) := ⟨Arr.set HE.out.arr 5 _⟩
        have HA2 : Hid (EntAt (wr.setCell ⟨G2, 5, none⟩ (.int .i64 (IntKind.i64.wrap (m : Int)))) w.heap.size EntMath.zero) := ⟨Arr.set_other HA.out.arr _ (by have := HGs.out; show w.heap.size ≠ G2; omega) _⟩
        have HB2 : Hid (Below w.heap.size w (wr.setCell ⟨G2, 5, none⟩ (.int .i64 (IntKind.i64.wrap (m : Int))))) := HBw.out.setCell (by have := HGs.out; show w.heap.size ≤ G2; omega) _
        have HRd : Hid _ := hrd2
        clear hT h hbr hlb hls htx2 hrd hrd2 hD
        have hwv : IntKind.i64.wrap (m : Int) = IntKind.i64.wrap (m : Int) := rfl
        generalize hwv2 : IntKind.i64.wrap (m : Int) = v at hw1 hw2 hw3 hw4 hfit HE2 HA2 HB2 hwv
        have hwr : IntKind.i64.wrap (m : Int) = v := hwv2
        have HRi : Hid (∀ w, MaxLen w → _) := fun w ht => entRight_any (ofTexts l v) w ht hfit
        have HT2 : Hid (MaxLen _) := MaxLen.later HT0.out HB2.out
        have HNR : Hid (281474976710655 < (m : Int) → EntMath.right (ofTexts l v) = false) := fun h => not_right_time (hw2 h)
        have HVM : Hid ((m : Int) ≤ 281474976710655 → v = (m : Int)) := hw1
        have c0 : wr.cell? ⟨G2, 0, none⟩ = some (.string (strN (ofTexts l v).feed)) := HE.out.cells.1
        have c1 : wr.cell? ⟨G2, 1, none⟩ = some (.string (strN (ofTexts l v).guid)) := HE.out.cells.2.1
        have c2 : wr.cell? ⟨G2, 2, none⟩ = some (.string (strN (ofTexts l v).title)) := HE.out.cells.2.2.1
        have c3 : wr.cell? ⟨G2, 3, none⟩ = some (.string (strN (ofTexts l v).link)) := HE.out.cells.2.2.2.1
        have c4 : wr.cell? ⟨G2, 4, none⟩ = some (.string (strN (ofTexts l v).body)) := HE.out.cells.2.2.2.2.1
        have hltG := HE.out.lt
        obtain ⟨rl, hrll⟩ : ∃ rl, rl = r.length := ⟨_, rfl⟩
        rw [← hrll] at HT hrl hrci HRd hjl ⊢
        have hnn : n ≤ rl := by omega
        clear hn hjl hj hw1 hw2 hw3 hw4 hfit hwv hwv2 hrll hv0
        by_cases hlt : n < rl
        · have HQ : Hid (EntMath.read zs = (EntMath.zero, 21)) := by show _ = _; rw [HRd.out, if_pos (by right; omega)]
          clear HRd HNR HVM c0 c1 c2 c3 c4
          go_wp2_with fail
          refine Calls.mono HT.out ?_
          rintro e w1 ⟨rfl, hww⟩
          subst w1
          go_wp2_with (refine wpList_store_ent rfl (.tmp 2) (.tmp 57) rfl w.heap.size EntMath.zero EntMath.zero rfl rfl HA2.out ?_)
          refine ret_ent w.heap.size EntMath.zero (.int .i64 21) rfl rfl rfl (EntAt.row HA2.out) rfl ⟨by rw [HQ.out]; rfl, below_setRow HB2.out (Nat.le_refl _) _⟩
        · have hge : (rl : Int) ≤ (n : Int) := by omega
          have hge2 : rl ≤ n := by omega
          clear hlt
          cases hB : EntMath.right (ofTexts l v) with
          | false =>
            have HQ : Hid (EntMath.read zs = (EntMath.zero, 21)) := by
              show _ = _; rw [HRd.out]
              by_cases hbig : 281474976710655 < (m : Int)
              · rw [if_pos (.inl hbig)]
              · rw [if_neg (by omega), ← HVM.out (by omega), hB]; simp
            rw [hB] at HRi
            clear HRd HNR HVM hB
            unfold entV at HRi
            go_wp2_with fail
            refine Calls.mono HT.out ?_
            rintro e w1 ⟨rfl, hww⟩
            subst w1
            go_wp2_with fail
            refine Calls.mono (HRi.out _ HT2.out) ?_
            rintro e w3 ⟨rfl, hb3⟩
            have HA3 : Hid _ := HA2.out.later hb3 HA2.out.lt
            have HB3 : Hid _ := HB2.out.trans (hb3.mono HB2.out.size)
            clear hb3
            go_wp2_with (refine wpList_store_ent rfl (.tmp 2) (.tmp 57) rfl w.heap.size EntMath.zero EntMath.zero rfl rfl HA3.out ?_)
            refine ret_ent w.heap.size EntMath.zero (.int .i64 21) rfl rfl rfl (EntAt.row HA3.out) rfl ⟨by rw [HQ.out]; rfl, below_setRow HB3.out (Nat.le_refl _) _⟩
          | true =>
            have HQ : Hid (EntMath.read zs = (ofTexts l v, 0)) := by
              show _ = _; rw [HRd.out]
              by_cases hbig : 281474976710655 < (m : Int)
              · have := HNR.out hbig; rw [hB] at this; cases this
              · rw [if_neg (by omega), ← HVM.out (by omega), if_pos hB]
            rw [hB] at HRi
            clear HRd HNR HVM hB
            unfold entV at HRi
            go_wp2_with fail
            refine Calls.mono HT.out ?_
            rintro e w1 ⟨rfl, hww⟩
            subst w1
            go_wp2_with fail
            refine Calls.mono (HRi.out _ HT2.out) ?_
            rintro e w3 ⟨rfl, hb3⟩
            have HA3 : Hid _ := HA2.out.later hb3 HA2.out.lt
            have HE3 : Hid _ := HE2.out.later hb3 HE2.out.lt
            have HB3 : Hid _ := HB2.out.trans (hb3.mono HB2.out.size)
            obtain ⟨d0, d1, d2, d3, d4, d5⟩ := HE3.out.cells
            have hltG3 := HE3.out.lt
            clear hb3 c0 c1 c2 c3 c4 hltG
            go_wp2_with (refine wpList_store_ent rfl (.tmp 2) (.tmp 58) rfl w.heap.size EntMath.zero (ofTexts l v) rfl rfl HA3.out ?_)
            refine ret_ent w.heap.size (ofTexts l v) (.int .i64 0) rfl rfl rfl (EntAt.row HA3.out) rfl ⟨by rw [HQ.out]; rfl, below_setRow HB3.out (Nat.le_refl _) _⟩
end Go.Proofs.YteockpllnhjooaaGreatDoor
namespace Go.Proofs.YteockpllnhjooaaGreatDoor
open Go.RowKit NumMath
open EntMath (E)
set_option maxRecDepth 100000
set_option linter.unusedVariables false
set_option linter.unusedSimpArgs false

set_option maxHeartbeats 16000000 in
theorem refEntRight_any (e : E) (w : World) (hF : EFit e) :
    Calls Tryz.prog 13 #[entV e] w fun r w' => r = .returned (.bool (EntMath.right e)) ∧ Below w.heap.size w w' := by
  have HC : Hid (∀ w, _) := fun w => refEntClean_any e w hF
  have HA0 : Hid _ := EntAt.new w e
  have HB0 : Hid (Below w.heap.size w (w.alloc (.cells #[.string (strN e.feed), .string (strN e.guid), .string (strN e.title), .string (strN e.link), .string (strN e.body), .int .i64 e.time] 23))) := (Below.refl _ _).alloc (Nat.le_refl _) _
  have HR : Hid ((EntMath.clean e = (e, 0) → EntMath.right e = true) ∧ (EntMath.clean e ≠ (e, 0) → EntMath.right e = false)) := ⟨(EntMath.right_iff e).2, EntMath.right_no⟩
  have hfx := EntMath.clean_any_fit e
  rcases hcl : EntMath.clean e with ⟨x, k⟩
  rw [hcl] at HC HR hfx
  simp only at hfx
  have e1 := strN_eq hfx.f1 hF.f1
  have e2 := strN_eq hfx.f2 hF.f2
  have e3 := strN_eq hfx.f3 hF.f3
  have e4 := strN_eq hfx.f4 hF.f4
  have e5 := strN_eq hfx.f5 hF.f5
  clear hcl
  by_cases hk : 0 < k
  · have HQ : Hid (EntMath.right e = false) := by
      exact HR.out.2 (fun h => by have := (Prod.mk.inj h).2; omega)
    clear HR e1 e2 e3 e4 e5 hfx hF
    unfold entV at *
    go_enter Tryz.func13, Tryz.ntmps13
    go_wp2_with fail
    refine Calls.mono (HC.out _) ?_
    rintro r w1 ⟨rfl, hb⟩
    have HB1 : Hid _ := HB0.out.trans (hb.mono HB0.out.size)
    clear hb
    go_wp2
    go_ret
    rw [HQ.out]
    exact ⟨rfl, HB1.out.alloc HB1.out.size _⟩
  · obtain rfl : k = 0 := by omega
    clear hk
    by_cases hx : x = e
    · have HQ : Hid (EntMath.right e = true) := by
        exact HR.out.1 (by rw [hx])
      clear HR e1 e2 e3 e4 e5 hfx hF
      subst hx
      unfold entV at *
      go_enter Tryz.func13, Tryz.ntmps13
      go_wp2_with fail
      refine Calls.mono (HC.out _) ?_
      rintro r w1 ⟨rfl, hb⟩
      have HA1 : Hid _ := HA0.out.later hb HA0.out.lt
      obtain ⟨c0, c1, c2, c3, c4, c5⟩ := HA1.out.cells
      have hlt := HA1.out.lt
      have HB1 : Hid _ := HB0.out.trans (hb.mono HB0.out.size)
      clear hb HA0 HB0
      go_wp2
      go_ret
      rw [HQ.out]
      exact ⟨rfl, HB1.out.alloc HB1.out.size _⟩
    · have HQ : Hid (EntMath.right e = false) := by
        exact HR.out.2 (fun h => hx (Prod.mk.inj h).1)
      have HX : Hid _ := hx
      clear HR hfx hF hx
      unfold entV at *
      go_enter Tryz.func13, Tryz.ntmps13
      go_wp2_with fail
      refine Calls.mono (HC.out _) ?_
      rintro r w1 ⟨rfl, hb⟩
      have HA1 : Hid _ := HA0.out.later hb HA0.out.lt
      obtain ⟨c0, c1, c2, c3, c4, c5⟩ := HA1.out.cells
      have hlt := HA1.out.lt
      have HB1 : Hid _ := HB0.out.trans (hb.mono HB0.out.size)
      clear hb HA0 HB0
      go_wp2
      all_goals first
        | (go_ret; rw [HQ.out]; exact ⟨rfl, HB1.out.alloc HB1.out.size _⟩)
        | (exfalso; have hx := HX.out; rw [ent_eq_iff] at hx; simp_all)
end Go.Proofs.YteockpllnhjooaaGreatDoor

/-
  FnShaSum.
-/
import Derived.Test.YteockpllnhjooaaGreatDoorQC43
namespace Go.Proofs.YteockpllnhjooaaGreatDoor
open Go.RowKit NumMath
set_option maxRecDepth 100000
set_option linter.unusedVariables false
set_option linter.unusedSimpArgs false
attribute [-simp] Tryz.isAgg131 Tryz.zeroValue131 Tryz.isAgg116 Tryz.zeroValue116 Tryz.isAgg113 Tryz.zeroValue113 Tryz.isAgg118 Tryz.isAgg117 Tryz.isAgg33 Tryz.zeroValue33

theorem out_get (s : ShaMath.St) (k : Nat) (h : k < 32) : (ShaMath.out s)[k]?.getD 0 = s.list[k / 4]?.getD 0 / 2 ^ (8 * (3 - k % 4)) % 256 := by
  have H : ∀ q t, q < 8 → t < 4 → (ShaMath.out s)[4 * q + t]?.getD 0 = s.list[q]?.getD 0 / 2 ^ (8 * (3 - t)) % 256 := by
    intro q t hq ht
    rcases (by omega : q = 0 ∨ q = 1 ∨ q = 2 ∨ q = 3 ∨ q = 4 ∨ q = 5 ∨ q = 6 ∨ q = 7) with rfl | rfl | rfl | rfl | rfl | rfl | rfl | rfl <;>
    rcases (by omega : t = 0 ∨ t = 1 ∨ t = 2 ∨ t = 3) with rfl | rfl | rfl | rfl <;> simp [ShaMath.out, ShaMath.bytesW, ShaMath.St.list]
  have := H (k / 4) (k % 4) (by omega) (by omega)
  rwa [show 4 * (k / 4) + k % 4 = k by omega] at this
theorem out_len (s : ShaMath.St) : (ShaMath.out s).length = 32 := rfl
theorem out_lt (s : ShaMath.St) : ∀ c ∈ ShaMath.out s, c < 256 := by
  intro c hc
  obtain ⟨x, _, hx⟩ := List.mem_flatMap.1 hc
  simp [ShaMath.bytesW] at hx
  omega
/-- A list that is filled from its head on. -/
def fillAt (l : List Nat) (k : Nat) : List Nat := l.take k ++ List.replicate (l.length - k) 0
theorem fillAt_len (l : List Nat) (k : Nat) (h : k ≤ l.length) : (fillAt l k).length = l.length := by simp [fillAt]; omega
theorem fillAt_zero (l : List Nat) : fillAt l 0 = List.replicate l.length 0 := by simp [fillAt]
theorem fillAt_end (l : List Nat) : fillAt l l.length = l := by simp [fillAt]
theorem fillAt_step (l : List Nat) (k : Nat) (h : k < l.length) : fillAt l (k + 1) = (fillAt l k).set k (l[k]?.getD 0) := by
  unfold fillAt
  have h1 : (l.take k).length = k := by simp; omega
  rw [List.set_append_right _ _ (by omega), h1, Nat.sub_self, show l.length - k = (l.length - (k + 1)) + 1 by omega, List.replicate_succ, List.take_succ_eq_append_getElem h, show l[k]?.getD 0 = l[k] by simp [h], List.append_assoc]
  rfl

set_option maxHeartbeats 4000000 in
theorem hashSum_any (g : Nat) (m : List Nat) (w : World) (ht : Tabs w) (hg : 2 < g) (hh : HashAt w g m) (hn : m.length < 576460752303423488) :
    Calls Tryz.prog 44 #[.pointer (some ⟨g, 0, none⟩)] w fun e w' => e = .returned (.agg (u8v (ShaMath.digest m)).toArray) ∧ Below w.heap.size w w' := by
  obtain ⟨z26, i26⟩ := zero_of_info zero26
  obtain ⟨z51, i51⟩ := zero_of_info zero51
  obtain ⟨Z, hZ⟩ : ∃ Z, Z = u8v (List.replicate 32 0) := ⟨_, rfl⟩
  obtain ⟨Y, hY⟩ : ∃ Y, Y = hashL ⟨0, 0, 0, 0, 0, 0, 0, 0⟩ (List.replicate 64 0) 0 := ⟨_, rfl⟩
  rw [← hZ] at z26
  rw [← hY] at z51
  have HZ : Hid (Z = u8v (List.replicate 32 0)) := hZ
  have HZl : Hid (Z.length = 32) := by show _ = _; rw [hZ, u8v_len]; simp
  have HYl : Hid (Y.length = 73) := by show _ = _; rw [hY]; exact hashL_len _ _ _ (by simp)
  obtain ⟨blk, hbl, hbb, hbt, hA⟩ := hh
  have hc72 : w.cell? ⟨g, 72, none⟩ = some (.int .u64 (m.length : Int)) := by rw [hA.cell 72]; exact hashL_size _ _ _ hbl
  have HH : Hid (∀ w' g', Arr w' g' 118 (hashL (ShaMath.state m) blk m.length) → HashAt w' g' m) := fun w' g' h => ⟨blk, hbl, hbb, hbt, h⟩
  have HO : Hid (∀ v ∈ hashL (ShaMath.state m) blk m.length, v.oneCell' = true) := by
    intro v hv
    simp only [hashL, List.mem_append, List.mem_singleton] at hv
    rcases hv with h | h | h
    · exact u32s_one _ v h
    · exact u8v_one _ v h
    · rw [h]; rfl
  have HXl : Hid ((hashL (ShaMath.state m) blk m.length).length = 73) := hashL_len _ _ _ hbl
  obtain ⟨X, hX⟩ : ∃ X, X = hashL (ShaMath.state m) blk m.length := ⟨_, rfl⟩
  rw [← hX] at HH HO HXl hA
  obtain ⟨n, hnn⟩ : ∃ n, n = m.length := ⟨_, rfl⟩
  rw [← hnn] at hc72 hn
  have HN : Hid (n = m.length) := hnn
  have HA : Hid _ := hA
  have hgl := hA.lt
  clear hZ hY i26 i51 hX hbl hbb hbt hA hnn
  have HA3 : Hid (Arr (((w.alloc (Obj.cells Z.toArray 33)).alloc (Obj.cells Y.toArray 118)).setRow (w.heap.size + 1) X.toArray) (w.heap.size + 1) 118 X) := Arr.row (Arr.new _ 118 Y (by simp))
  have HA2 : Hid (Arr (((w.alloc (Obj.cells Z.toArray 33)).alloc (Obj.cells Y.toArray 118)).setRow (w.heap.size + 1) X.toArray) w.heap.size 33 Z) := ((Arr.new w 33 Z rfl).alloc _).row_other _ (by omega)
  have HBl : Hid (Below w.heap.size w (((w.alloc (Obj.cells Z.toArray 33)).alloc (Obj.cells Y.toArray 118)).setRow (w.heap.size + 1) X.toArray)) := below_setRow (((Below.refl _ _).alloc (Nat.le_refl _) _).alloc (by simp) _) (by omega) _
  have HSz : Hid ((((w.alloc (Obj.cells Z.toArray 33)).alloc (Obj.cells Y.toArray 118)).setRow (w.heap.size + 1) X.toArray).heap.size = w.heap.size + 1 + 1) := by show _ = _; simp
  have hc3 : (((w.alloc (Obj.cells Z.toArray 33)).alloc (Obj.cells Y.toArray 118)).setRow (w.heap.size + 1) X.toArray).cell? ⟨g, 72, none⟩ = some (.int .u64 (n : Int)) := by rw [HBl.out.cell (by show g < w.heap.size; exact hgl)]; exact hc72
  go_enter Tryz.func44, Tryz.ntmps44
  go_wp2_with (first
    | (refine wpList_load_mid rfl 118 (.tmp 7) rfl g 0 rfl X _ (range_of_arr (Arr.alloc HA.out _)) Tryz.underlying118 rfl (by rw [HXl.out]; exact (zero_of_info zero51).2) ?_)
    | (refine wpList_store_arr rfl 118 (.tmp 3) (.tmp 8) rfl (w.heap.size + 1) 118 Y X rfl rfl (Arr.new _ 118 Y (by simp)) (by rw [HXl.out]; exact (zero_of_info zero51).2) (by rw [HYl.out, HXl.out]) HO.out ?_))
  clear hc3
  generalize (((w.alloc (Obj.cells Z.toArray 33)).alloc (Obj.cells Y.toArray 118)).setRow (w.heap.size + 1) X.toArray) = w3 at *
  refine Calls.mono (padding_any n w3 (by omega)) ?_
  rintro e w4 ⟨rfl, hrow4, hB4⟩
  have hg3 : w.heap.size + 1 < w3.heap.size := by have := HSz.out; omega
  have HR4 : Hid _ := hrow4
  have HA4 : Hid (Arr w4 (w.heap.size + 1) 118 X) := Arr.later HA3.out hB4 hg3
  have HA42 : Hid (Arr w4 w.heap.size 33 Z) := Arr.later HA2.out hB4 (by omega)
  have HB4 : Hid (Below w.heap.size w w4) := HBl.out.trans (hB4.mono (by omega))
  have hs4 := hB4.size
  have hpl := ShaMath.pad_len n
  have hzl : ShaMath.zerosOf n < 64 := Nat.mod_lt _ (by decide)
  obtain ⟨q, hq⟩ : ∃ q, q = (ShaMath.pad n).length := ⟨_, rfl⟩
  have HQ : Hid _ := hq
  have hql : q < 80 := by omega
  have htw4 : Tabs w4 := ht.later HB4.out ht.lt
  have hwr := write_any (w.heap.size + 1) m (some ⟨w3.heap.size, 0, none⟩) (ints (ShaMath.pad n)) (ShaMath.pad n).length w4 htw4 (by have := ht.lt; omega) (HH.out _ _ HA4.out) hrow4 (by intro _ ad h; injection h with h; rw [← h]; show w3.heap.size ≠ _; omega) (ints_byte (pad_lt n)) (by rw [ints_len]; exact Nat.le_refl _) (by unfold maxLen; omega) (by rw [ints_len, ← HN.out]; omega)
  rw [ints_len, nats_ints] at hwr
  rw [← hq] at hwr ⊢
  have HWR : Hid _ := hwr
  clear hwr hq hpl hzl hrow4 hB4
  go_wp2_with fail
  refine Calls.mono HWR.out ?_
  rintro e w5 ⟨rfl, hh5, hg5⟩
  have HB5 : Hid (Below w.heap.size w w5) := HB4.out.grown hg5 (by omega) (fun k h => by injection h with h; omega)
  have HA52 : Hid (Arr w5 w.heap.size 33 Z) := by
    have h := hg5.block w.heap.size (by omega) (by intro e; injection e; omega)
    show w5.heap[w.heap.size]? = _
    rw [h]; exact HA42.out
  obtain ⟨blk5, hbl5, _, _, hA5⟩ := hh5
  have hs5 := hg5.size
  have HA5 : Hid (Arr w5 (w.heap.size + 1) 118 (hashL (ShaMath.state (m ++ ShaMath.pad n)) blk5 (m ++ ShaMath.pad n).length)) := hA5
  have HDG : Hid (ShaMath.digest m = ShaMath.out (ShaMath.state (m ++ ShaMath.pad n))) := by show _ = _; rw [HN.out]; rfl
  have hSok := ShaMath.state_ok (m ++ ShaMath.pad n)
  generalize ShaMath.state (m ++ ShaMath.pad n) = S at *
  generalize (m ++ ShaMath.pad n).length = n5 at *
  clear hg5 HA4 HA42 HB4 HWR hA5 htw4 HR4 HA3 HA2 HBl HSz HH hc72
  go_wp2_with fail
  have HA6 : Hid (Arr (w5.alloc (Obj.cells Z.toArray 33)) w5.heap.size 33 (u8v (fillAt (ShaMath.out S) 0))) := by
    rw [fillAt_zero, out_len, ← HZ.out]; exact Arr.new w5 33 Z rfl
  have HA62 : Hid (Arr (w5.alloc (Obj.cells Z.toArray 33)) w.heap.size 33 Z) := Arr.alloc HA52.out _
  have HA63 : Hid (Arr (w5.alloc (Obj.cells Z.toArray 33)) (w.heap.size + 1) 118 (hashL S blk5 n5)) := Arr.alloc HA5.out _
  have HB6 : Hid (Below w.heap.size w (w5.alloc (Obj.cells Z.toArray 33))) := HB5.out.alloc HB5.out.size _
  generalize hw6 : w5.alloc (Obj.cells Z.toArray 33) = w6 at *
  obtain ⟨g4, hg4⟩ : ∃ g4, g4 = w5.heap.size := ⟨_, rfl⟩
  have hg4' : w.heap.size + 1 + 1 ≤ g4 := by omega
  rw [← hg4] at HA6 ⊢
  clear hg4 hw6 HA52 HA5 HB5
  go_loopw [15] (fun i wr => ∃ k : Nat, k ≤ 32 ∧ i = .int .i64 k ∧ Arr wr g4 33 (u8v (fillAt (ShaMath.out S) k)) ∧ Arr wr w.heap.size 33 Z ∧ Arr wr (w.heap.size + 1) 118 (hashL S blk5 n5) ∧ Below w.heap.size w wr) (fun i _ => 32 - (intOf i).toNat)
  case atStart => exact ⟨0, by omega, rfl, HA6.out, HA62.out, HA63.out, HB6.out⟩
  case round =>
    clear HA6 HA62 HA63 HB6
    obtain ⟨k, hk, rfl, h4, h2, h3, hBw⟩ := hrel
    by_cases hlt : k < 32
    · have hol := out_len S
      have hstep := fillAt_step (ShaMath.out S) k (by rw [hol]; exact hlt)
      have hlen := fillAt_len (ShaMath.out S) k (by rw [hol]; exact hk)
      rw [out_get S k hlt] at hstep
      have hcell := h4.cell8 k (by rw [hlen, hol]; exact hlt)
      have hfz := h4.frozen k
      have hword : wr.cell? ⟨w.heap.size + 1, k / 4, none⟩ = some (.int .u32 ((S.list[k / 4]?.getD 0 : Nat) : Int)) := by
        have h8 : k / 4 < S.list.length := by rw [list8]; omega
        have := hash_words h3 (k / 4) (.int .u32 ((S.list[k / 4]?.getD 0 : Nat) : Int)) (by simp [u32s, h8])
        rwa [Nat.zero_add] at this
      obtain ⟨t, ht1, ht2⟩ : ∃ t : Nat, (k : Int) % 4 = (t : Int) ∧ t = k % 4 := ⟨k % 4, by omega, rfl⟩
      have ht1' : (k : Int).tmod 4 = (t : Int) := by rw [Int.tmod_eq_emod_of_nonneg (by omega)]; exact ht1
      obtain ⟨u, hu1, hu2⟩ : ∃ u : Nat, (3 : Int) - (t : Int) = (u : Int) ∧ u = 3 - t := ⟨3 - t, by omega, rfl⟩
      obtain ⟨v, hv1, hv2⟩ : ∃ v : Nat, (8 : Int) * (u : Int) = (v : Int) ∧ v = 8 * u := ⟨8 * u, by omega, rfl⟩
      rw [← ht2, ← hu2, ← hv2] at hstep
      have hvl : v ≤ 24 := by omega
      have hvI : (v : Int) ≤ 32 := by omega
      generalize S.list[k / 4]?.getD 0 = W at *
      generalize (fillAt (ShaMath.out S) k)[k]?.getD 0 = D at *
      obtain ⟨b, hb1, hb2⟩ : ∃ b : Nat, (W : Int) / 2 ^ v % 256 = (b : Int) ∧ b = W / 2 ^ v % 256 := ⟨_, by simp, rfl⟩
      rw [← hb2] at hstep
      have HST : Hid _ := hstep
      have H4 : Hid _ := h4
      have H2 : Hid _ := h2
      have H3 : Hid _ := h3
      have hkq : k / 4 < 8 := by omega
      clear hstep h4 h2 h3 hol hlen ht2 hu2 hv2 hb2
      go_wp2
      go_roundw
      case rel => exact ⟨k + 1, by omega, by go_num, by rw [HST.out, ← u8v_set]; exact Arr.set H4.out _ _, Arr.set_other H2.out _ (by simp; omega) _, Arr.set_other H3.out _ (by simp; omega) _, hBw.setCell (by simp; omega) _⟩
      case measure => simp [intOf]; omega
    · obtain rfl : k = 32 := by omega
      rw [show fillAt (ShaMath.out S) 32 = ShaMath.out S from fillAt_end (ShaMath.out S), ← HDG.out] at h4
      have H4 : Hid _ := h4
      have H2 : Hid _ := h2
      have HDl : Hid ((u8v (ShaMath.digest m)).length = 32) := by show _ = _; rw [u8v_len, HDG.out]; rfl
      have HOd : Hid _ := u8v_one (ShaMath.digest m)
      obtain ⟨R, hR⟩ : ∃ R, R = u8v (ShaMath.digest m) := ⟨_, rfl⟩
      rw [← hR] at H4 HDl HOd
      have HR : Hid (R = u8v (ShaMath.digest m)) := hR
      clear h4 h2 hlt hR h3
      go_wp2_with (first
        | (refine wpList_load_mid rfl 33 (.tmp 4) rfl g4 0 rfl R (.array 32 5) (range_of_arr H4.out) Tryz.underlying33 rfl (by rw [HDl.out]; exact size26) ?_)
        | (refine wpList_store_arr rfl 33 (.tmp 2) (.tmp 32) rfl w.heap.size 33 Z R rfl rfl H2.out (by rw [HDl.out]; exact size26) (by rw [HZl.out, HDl.out]) HOd.out ?_))
      (try simp only [Exit.inBlock, Exit.then])
      refine ret_arr w.heap.size 33 R (.array 32 5) rfl rfl (Arr.row H2.out) Tryz.underlying33 rfl (by rw [HDl.out]; exact size26) rfl ⟨by rw [HR.out], below_setRow hBw (Nat.le_refl _) _⟩

theorem digest_len (m : List Nat) : (ShaMath.digest m).length = 32 := rfl
theorem allB_nats_len (ps : List Part) (k : Nat) : (nats (allB (ps.take k))).length ≤ (allB ps).length := by
  have h : (allB ps) = allB (ps.take k) ++ allB (ps.drop k) := by unfold allB; rw [← List.flatMap_append, List.take_append_drop]
  rw [h]; simp [nats]

set_option maxHeartbeats 4000000 in
theorem shaSum_any (a : Option Addr) (ps : List Part) (cap : Nat) (w : World) (ht : Tabs w) (hr : Parts w a ps) (hc : ps.length ≤ cap) (hm : cap ≤ maxLen) (hn : (allB ps).length < 576460752303423488) :
    Calls Tryz.prog 22 #[.slice a ps.length cap] w fun e w' => e = .returned (.agg (u8v (ShaMath.digest (nats (allB ps)))).toArray) ∧ Below w.heap.size w w' := by
  unfold maxLen at hm
  obtain ⟨z26, i26⟩ := zero_of_info zero26
  obtain ⟨Z, hZ⟩ : ∃ Z, Z = u8v (List.replicate 32 0) := ⟨_, rfl⟩
  rw [← hZ] at z26
  have HZl : Hid (Z.length = 32) := by show _ = _; rw [hZ, u8v_len]; simp
  obtain ⟨L, hL⟩ : ∃ L, L = ps.length := ⟨_, rfl⟩
  rw [← hL] at hc ⊢
  have HL : Hid (L = ps.length) := hL
  have HP : Hid _ := hr
  have HT : Hid _ := ht
  clear hZ i26 hL hr ht
  go_enter Tryz.func22, Tryz.ntmps22
  go_wp2_with fail
  have htl := HT.out.lt
  have HBa : Hid (Below w.heap.size w (w.alloc (Obj.cells Z.toArray 33))) := (Below.refl _ _).alloc (Nat.le_refl _) _
  have hAa : Arr (w.alloc (Obj.cells Z.toArray 33)) w.heap.size 33 Z := Arr.new w 33 Z rfl
  have hsz : (w.alloc (Obj.cells Z.toArray 33)).heap.size = w.heap.size + 1 := by simp
  generalize (w.alloc (Obj.cells Z.toArray 33)) = w1 at *
  refine (new_any w1 (HT.out.later HBa.out htl)).mono ?_
  rintro e w2 ⟨rfl, hh2, hB2⟩
  obtain ⟨gh, hgh⟩ : ∃ gh, gh = w1.heap.size := ⟨_, rfl⟩
  have HGh : Hid (gh = w.heap.size + 1) := by show _ = _; rw [hgh, hsz]
  rw [← hgh] at hh2 ⊢
  have HA2 : Hid (Arr w2 w.heap.size 33 Z) := Arr.later hAa hB2 (by omega)
  have HB2 : Hid (Below w.heap.size w w2) := HBa.out.trans (hB2.mono (by omega))
  have HH2 : Hid _ := hh2
  clear HBa hAa hsz hgh hB2 hh2
  go_wp2_with fail
  go_loopw [9] (fun i wr => ∃ k : Nat, k ≤ L ∧ i = .int .i64 k ∧ HashAt wr gh (nats (allB (ps.take k))) ∧ Arr wr w.heap.size 33 Z ∧ Below w.heap.size w wr) (fun i _ => L - (intOf i).toNat)
  case atStart => exact ⟨0, by omega, rfl, by rw [show nats (allB (ps.take 0)) = [] by simp [allB, nats]]; exact HH2.out, HA2.out, HB2.out⟩
  case round =>
    clear HH2 HA2 HB2
    obtain ⟨k, hk, rfl, hh, hA, hBw⟩ := hrel
    have hgh : w.heap.size + 1 ≤ gh := by have := HGh.out; omega
    by_cases hlt : k < L
    · have hkl : k < ps.length := by have := HL.out; omega
      obtain ⟨p, hp⟩ : ∃ p, p = ps[k]?.getD noPart := ⟨_, rfl⟩
      have hpm : p ∈ ps := by rw [hp]; exact part_mem ps k hkl
      have hok := HP.out.2 p hpm
      obtain ⟨b, off, ha, hcell⟩ : ∃ b off, a = some ⟨b, off, none⟩ ∧ ∀ i, i < ps.length → w.cell? ⟨b, off + i, none⟩ = some (ps[i]?.getD noPart).val := by
        rcases HP.out.1 with h | h
        · rw [h] at hkl; simp at hkl
        · exact h
      have hcw : wr.cell? ⟨b, off + k, none⟩ = some (.slice p.a p.zs.length p.cap) := by
        have h := hcell k hkl
        rw [hBw.cell (World.block_lt_of_cell? w _ h), h, ← hp]; rfl
      have hsn := parts_snoc ps k hkl
      rw [← hp] at hsn
      have HSN : Hid (nats (allB (ps.take (k + 1))) = nats (allB (ps.take k)) ++ nats p.zs) := by show _ = _; rw [hsn, nats_append]
      have hbound := allB_nats_len ps (k + 1)
      rw [HSN.out, List.length_append] at hbound
      have hnz : (nats p.zs).length = p.zs.length := by simp [nats]
      have hokw := hok.later hBw
      have hw := write_any gh (nats (allB (ps.take k))) p.a p.zs p.cap wr (HT.out.later hBw htl) (by omega) hh hokw.1 (by
        intro h0 ad had
        rcases hok.1 with h | ⟨b', off', ha', hc'⟩
        · rw [h] at h0; simp at h0
        · rw [had] at ha'; injection ha' with ha'; subst ha'
          have := World.block_lt_of_cell? w _ (hc' 0 h0)
          show b' ≠ gh
          have hb2 : b' < w.heap.size := this
          omega) hokw.2.1 hokw.2.2.1 hokw.2.2.2 (by omega)
      rw [← HSN.out] at hw
      have HW : Hid _ := hw
      have HA : Hid _ := hA
      subst ha
      clear hp hpm hok hcell hsn hbound hnz hokw hw hh hA
      obtain ⟨pa, pl, pc, hv⟩ : ∃ pa pl pc, Value.slice p.a p.zs.length p.cap = .slice pa pl pc := ⟨_, _, _, rfl⟩
      rw [hv] at hcw HW
      clear hv
      go_wp2_with fail
      refine Calls.mono HW.out ?_
      rintro e w3 ⟨rfl, hh3, hg3⟩
      have HB3 : Hid (Below w.heap.size w w3) := hBw.grown hg3 hBw.size (fun k h => by injection h with h; omega)
      have HA3 : Hid (Arr w3 w.heap.size 33 Z) := by
        have h := hg3.block w.heap.size (Arr.lt HA.out) (by intro e; injection e; omega)
        show w3.heap[w.heap.size]? = _
        rw [h]; exact HA.out
      have HH3 : Hid _ := hh3
      clear hh3 hg3 HW hcw
      go_wp2
      go_roundw
      case rel => exact ⟨k + 1, by omega, by go_num, HH3.out, HA3.out, HB3.out⟩
      case measure => simp [intOf]; omega
    · have hkl : k = L := by omega
      subst hkl
      rw [List.take_of_length_le (by have := HL.out; omega)] at hh
      have HA : Hid _ := hA
      have hsum := hashSum_any gh (nats (allB ps)) wr (HT.out.later hBw htl) (by omega) hh (by simpa [nats] using hn)
      have HS : Hid _ := hsum
      have hd : decide ((k : Int) < (k : Int)) = false := by simp
      clear hsum hh hA
      have HDl : Hid ((u8v (ShaMath.digest (nats (allB ps)))).length = 32) := by show _ = _; rw [u8v_len]; rfl
      have HOd : Hid _ := u8v_one (ShaMath.digest (nats (allB ps)))
      obtain ⟨R, hR⟩ : ∃ R, R = u8v (ShaMath.digest (nats (allB ps))) := ⟨_, rfl⟩
      rw [← hR] at HDl HOd HS
      have HR : Hid (R = u8v (ShaMath.digest (nats (allB ps)))) := hR
      clear hR
      go_wp2_with fail
      refine Calls.mono HS.out ?_
      rintro e w3 ⟨rfl, hB3⟩
      have HB3 : Hid (Below w.heap.size w w3) := hBw.trans (hB3.mono hBw.size)
      have HA3 : Hid (Arr w3 w.heap.size 33 Z) := Arr.later HA.out hB3 (Arr.lt HA.out)
      clear hB3 HS
      go_wp2_with (refine wpList_store_arr rfl 33 (.tmp 2) (.tmp 18) rfl w.heap.size 33 Z R rfl rfl HA3.out (by rw [HDl.out]; exact size26) (by rw [HZl.out, HDl.out]) HOd.out ?_)
      (try simp only [Exit.inBlock, Exit.then])
      refine ret_arr w.heap.size 33 R (.array 32 5) rfl rfl (Arr.row HA3.out) Tryz.underlying33 rfl (by rw [HDl.out]; exact size26) rfl ⟨by rw [HR.out], below_setRow HB3.out (Nat.le_refl _) _⟩

end Go.Proofs.YteockpllnhjooaaGreatDoor

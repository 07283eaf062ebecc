/-
  Walk of newsreelref1.Digest: the document's own digest.
-/
import Derived.Test.YteockpllnhjooaaGreatDoorFnRefBlock
import Derived.Test.YteockpllnhjooaaGreatDoorFnShaSum
namespace Go.Proofs.YteockpllnhjooaaGreatDoor
open Go.RowKit NumMath
set_option maxRecDepth 100000
set_option linter.unusedVariables false
set_option linter.unusedSimpArgs false
attribute [-simp] Tryz.isAgg131 Tryz.zeroValue131 Tryz.isAgg113 Tryz.zeroValue113 Tryz.isAgg33 Tryz.zeroValue33

theorem allB_take_le (ps : List Part) (k : Nat) : (allB (ps.take k)).length ≤ (allB ps).length := by
  have h : allB ps = allB (ps.take k) ++ allB (ps.drop k) := by
    unfold allB
    rw [← List.flatMap_append, List.take_append_drop]
  rw [h, List.length_append]; omega
theorem fix8_ints (n : Nat) : fixL 8 ((n : Nat) : Int) = ints (ShaMath.fix8 n) := by
  simp only [fixL_head, fixL, ints, ShaMath.fix8, List.map]
  simp
  refine ⟨?_, ?_, ?_, ?_, ?_, ?_⟩ <;> omega
theorem ints_nats {zs : List Int} (h : ∀ c ∈ zs, 0 ≤ c ∧ c ≤ 255) : ints (nats zs) = zs := by
  unfold ints nats
  rw [List.map_map]
  exact (List.map_congr_left (fun x hx => by have := h x hx; simp; omega)).trans (List.map_id _)
theorem ints_append (a b : List Nat) : ints (a ++ b) = ints a ++ ints b := by simp [ints]
/-- What stands so far behind the bytes: the bit and j zeros. -/
def padUp (m : List Nat) (j : Nat) : List Nat := m ++ 128 :: List.replicate j 0
theorem padUp_len (m : List Nat) (j : Nat) : (padUp m j).length = m.length + 1 + j := by simp [padUp]; omega
theorem padUp_step (m : List Nat) (j : Nat) : padUp m (j + 1) = padUp m j ++ [0] := by
  unfold padUp; rw [List.replicate_succ']; simp
theorem padUp_end (m : List Nat) : padUp m (ShaMath.zerosOf m.length) ++ ShaMath.fix8 (8 * m.length) = m ++ ShaMath.pad m.length := by
  simp [padUp, ShaMath.pad]

theorem Row.setRow_other {k : IntKind} {w : World} {b off : Nat} {zs : List Int} (h : Row k w (some ⟨b, off, none⟩) zs) {g : Nat} (cs : Array Value) (hg : b ≠ g) : Row k (w.setRow g cs) (some ⟨b, off, none⟩) zs := by
  rcases h with h | ⟨b', off', ha, hc⟩
  · exact .inl h
  · have ha' : b = b' ∧ off = off' := by simpa using ha
    obtain ⟨rfl, rfl⟩ := ha'
    refine .inr ⟨b, off, rfl, fun i hi => ?_⟩
    rw [cell_setRow_other w g cs _ (by exact hg)]; exact hc i hi
theorem row_piece {w : World} {b : Nat} {l : List Nat} (h : Row .u8 w (some ⟨b, 0, none⟩) (ints l)) (p n : Nat) : Row .u8 w (some ⟨b, p, none⟩) (ints ((l.drop p).take n)) := by
  rcases h with h | ⟨b', off', ha, hc⟩
  · left
    have : l = [] := by have := congrArg List.length h; rw [ints_len] at this; exact List.eq_nil_of_length_eq_zero this
    rw [this]; simp [ints]
  · have ha' : b = b' ∧ 0 = off' := by simpa using ha
    obtain ⟨rfl, rfl⟩ := ha'
    refine .inr ⟨b, p, rfl, fun i hi => ?_⟩
    have hi' : i < n ∧ p + i < l.length := by rw [ints_len, List.length_take, List.length_drop] at hi; omega
    have := hc (p + i) (by rw [ints_len]; exact hi'.2)
    rw [Nat.zero_add] at this
    rw [this]
    simp [ints, hi'.1]
/-- What stays while the blocks go through. -/
def Dg (w wr : World) (g : Nat) (MM : List Nat) (Z : List Value) : Prop := Row .u8 wr (some ⟨g, 0, none⟩) (ints MM) ∧ Arr wr w.heap.size 33 Z ∧ Below w.heap.size w wr
theorem Dg.below {w wr w' : World} {g : Nat} {MM : List Nat} {Z : List Value} (h : Dg w wr g MM Z) (hb : Below wr.heap.size wr w') : Dg w w' g MM Z := ⟨Row.later h.1 hb, h.2.1.later hb h.2.1.lt, h.2.2.trans (hb.mono h.2.2.size)⟩
theorem Dg.drew {w wr : World} {g : Nat} {MM : List Nat} {Z : List Value} (h : Dg w wr g MM Z) : Dg w wr.drew g MM Z := ⟨h.1.drew, h.2.1.drew, h.2.2.drew⟩

set_option maxRecDepth 4000 in
set_option maxHeartbeats 4000000 in
theorem digest_any (a : Option Addr) (ps : List Part) (cap : Nat) (w : World) (ht : RefTab w) (htl : 2 < w.heap.size) (hr : Parts w a ps) (hnil : ∀ p ∈ ps, p.a = none → p.cap = 0) (hc : ps.length ≤ cap) (hm : cap ≤ maxLen) (hn : (allB ps).length ≤ 1099511627776) :
    Calls Tryz.prog 39 #[.slice a ps.length cap] w fun e w' => e = .returned (.agg (u8v (ShaMath.digest (nats (allB ps)))).toArray) ∧ Below w.heap.size w w' := by
  obtain ⟨i0, hi, hz0, hz1, hz2⟩ := info_parts Tryz.info5
  unfold maxLen at hm
  obtain ⟨z26, i26⟩ := zero_of_info zero26
  obtain ⟨Z, hZ⟩ : ∃ Z, Z = u8v (List.replicate 32 0) := ⟨_, rfl⟩
  rw [← hZ] at z26
  have HZ : Hid (Z = u8v (List.replicate 32 0)) := hZ
  have HZl : Hid (Z.length = 32) := by show _ = _; rw [hZ, u8v_len]; simp
  obtain ⟨z47, i47⟩ := zero_of_info zero47
  obtain ⟨Z8, hZ8⟩ : ∃ Z, Z = u32s (List.replicate 8 0) := ⟨_, rfl⟩
  rw [← hZ8] at z47
  have HZ8l : Hid (Z8.length = 8) := by show _ = _; rw [hZ8, u32s_len]; simp
  obtain ⟨I0, hI0⟩ : ∃ I, I = u32s ShaMath.init.list := ⟨_, rfl⟩
  have HI0 : Hid _ := hI0
  have HI8 : Hid (I0.length = 8) := by show _ = _; rw [hI0, u32s_len]; rfl
  have HIo : Hid (∀ v ∈ I0, v.oneCell' = true) := by rw [hI0]; exact u32s_one _
  have HBI : Hid (Tryz.prog.built 113 [(0, .int .u32 1779033703), (1, .int .u32 3144134277), (2, .int .u32 1013904242), (3, .int .u32 2773480762), (4, .int .u32 1359893119), (5, .int .u32 2600822924), (6, .int .u32 528734635), (7, .int .u32 1541459225)] = some I0.toArray) := by show _ = _; rw [hI0]; kernel_rfl
  clear hZ8 i47 hI0
  obtain ⟨n, hn0⟩ : ∃ n, n = ps.length := ⟨_, rfl⟩
  rw [← hn0] at hc ⊢
  have HN : Hid (n = ps.length) := hn0
  have HT : Hid _ := ht
  have hall := allB_byte (fun p hp => hr.2 p hp)
  have HAB : Hid _ := hall
  have hat : ∀ w', Below w.heap.size w w' → ∀ j, j < n → ∃ b off, a = some ⟨b, off, none⟩ ∧ w'.cell? ⟨b, off + j, none⟩ = some (ps[j]?.getD noPart).val ∧ (ps[j]?.getD noPart).ok w' ∧ ((ps[j]?.getD noPart).a = none → (ps[j]?.getD noPart).cap = 0) := by
    intro w' hB j hj
    have hr' := hr.later hB
    rcases hr'.1 with h | ⟨b, off, ha, hcell⟩
    · rw [h] at hn0; simp at hn0; omega
    · exact ⟨b, off, ha, hcell j (by omega), hr'.2 _ (part_mem ps j (by omega)), hnil _ (part_mem ps j (by omega))⟩
  have HAT : Hid _ := hat
  obtain ⟨T, hT⟩ : ∃ T, T = (allB ps).length := ⟨_, rfl⟩
  have HTT : Hid (T = (allB ps).length) := hT
  have hle : ∀ k, (allB (ps.take k)).length ≤ T := fun k => by rw [hT]; exact allB_take_le ps k
  have HLE : Hid _ := hle
  rw [← hT] at hn
  clear hat hn0 hr hnil hT hle ht hall hZ i26
  have HA1 : Hid (Arr (w.alloc (Obj.cells Z.toArray 33)) w.heap.size 33 Z) := Arr.new w 33 Z rfl
  have HB1 : Hid (Below w.heap.size w (w.alloc (Obj.cells Z.toArray 33))) := (Below.refl _ _).alloc (Nat.le_refl _) _
  have HS1 : Hid ((w.alloc (Obj.cells Z.toArray 33)).heap.size = w.heap.size + 1) := by show _ = _; simp
  go_enter Tryz.func39, Tryz.ntmps39
  go_wp2_with fail
  generalize (w.alloc (Obj.cells Z.toArray 33)) = w1 at *
  go_loopw [3, 4] (fun x i wr => ∃ k m : Nat, k ≤ n ∧ i = .int .i64 k ∧ m = (allB (ps.take k)).length ∧ wr.ownsRow w1.heap.size 5 1 x m ((allB (ps.take k)).map (Value.int .u8)) ∧ Below w1.heap.size w1 wr) (fun _ i _ => n - (intOf i).toNat)
  case atStart => exact ⟨0, 0, by omega, rfl, by simp [allB], by simpa [allB] using World.ownsRow_nil _ _ _ _, Below.refl _ _⟩
  case round =>
    obtain ⟨k, m, hk, rfl, hm1, hown, hB⟩ := hrel
    have HM1 : Hid (m = (allB (ps.take k)).length) := hm1
    have hmT : m ≤ T := by rw [hm1]; exact HLE.out k
    have hBw : Below w.heap.size w wr := HB1.out.trans (hB.mono HB1.out.size)
    clear hm1
    by_cases hlt : k < n
    · obtain ⟨b, off, hal, hcl, hok, hpn⟩ := HAT.out _ hBw k hlt
      obtain ⟨p, hp⟩ : ∃ p, p = ps[k]?.getD noPart := ⟨_, rfl⟩
      rw [← hp] at hcl hok hpn
      unfold Part.val at hcl
      have HNX : Hid (allB (ps.take (k + 1)) = allB (ps.take k) ++ p.zs) := by rw [hp]; exact parts_snoc ps k (by have := HN.out; omega)
      have hnx : m + p.zs.length ≤ T := by
        have := HLE.out (k + 1)
        rw [HNX.out, List.length_append, ← HM1.out] at this
        exact this
      have HPN : Hid (p.a = none → p.zs.length = 0 ∧ p.cap = 0) := fun h => by have := hpn h; have := hok.2.2.1; omega
      have hpr := hok.1
      have hpc := hok.2.2.1
      have hpm := hok.2.2.2
      unfold maxLen at hpm
      subst hal
      clear hp hok hpn
      go_wp2_with (at_builtin; refine wpList_append_own_any rfl (.tmp 16) (.tmp 20) 48 rfl w1.heap.size 5 i0 (.int .u8 0) 1 1 Tryz.underlying48 hi hz0 hz1 hz2 rfl (by decide) _ m _ rfl hown p.a p.zs.length p.cap (p.zs.map (Value.int .u8)) rfl (by rw [List.length_map, Nat.mul_one]) HPN.out hpr.news (ints_oneCell _ _) (by unfold maxLen; omega) (by omega) hB.size ?_; intro v5 w5 hown5 hgrow5)
      have hB5 := hB.grown hgrow5 hB.size (own_ge hown)
      go_roundw
      case rel => exact ⟨k + 1, m + p.zs.length, by omega, by go_num, by rw [HNX.out, List.length_append, ← HM1.out], by rw [HNX.out, List.map_append]; exact hown5, hB5⟩
      case measure => simp [intOf]; omega
    · have hkn : k = n := by omega
      have hE : ps.take k = ps := by rw [hkn, HN.out]; exact List.take_of_length_le (Nat.le_refl _)
      have hmm : m = T := by rw [HM1.out, hE, HTT.out]
      rw [hE, hmm] at hown
      obtain ⟨M, hM⟩ : ∃ M, M = nats (allB ps) := ⟨_, rfl⟩
      have hMi : allB ps = ints M := by rw [hM]; exact (ints_nats HAB.out).symm
      have hMl : M.length = T := by rw [hM, HTT.out]; simp [nats]
      have HMb : Hid (∀ c ∈ M, c < 256) := by rw [hM]; exact nats_byte HAB.out
      rw [hMi] at hown
      have HM : Hid (M = nats (allB ps)) := hM
      have HMl : Hid _ := hMl
      obtain ⟨a3, c3, hv3, hrow3, hc3, hm3, hn3⟩ := own_shape hown
      subst hv3
      rw [ints_len, hMl] at hc3 hown ⊢
      have hd : decide ((k : Int) < (n : Int)) = false := by simp; omega
      obtain ⟨Bt, hBt, gBt⟩ : ∃ q : Nat, (T : Int) * 8 = (q : Int) ∧ q = 8 * T := ⟨8 * T, by omega, rfl⟩
      have HBt : Hid _ := gBt
      have hBtl : Bt ≤ 8796093022208 := by omega
      clear hE hkn hmm hMi hM hMl hrow3 gBt
      go_wp2_with (at_builtin; refine wpList_append_own_any rfl (.tmp 26) (.tmp 27) 48 rfl w1.heap.size 5 i0 (.int .u8 0) 1 1 Tryz.underlying48 hi hz0 hz1 hz2 rfl (by decide) _ T _ rfl (hown.alloc _) (some ⟨wr.heap.size, 0, none⟩) 1 1 ([128].map (Value.int .u8)) rfl rfl (by intro h; cases h) (lit_row _ .u8 [128] 5 _ rfl).news (ints_oneCell _ _) (by unfold maxLen; omega) (by omega) (by simp; have := hB.size; omega) ?_; intro v4 w4 hown4 hgrow4; have hB4 := (hB.alloc hB.size _).grown hgrow4 (by simp; have := hB.size; omega) (own_ge hown); clear hgrow4)
      have HO4 : Hid (w4.ownsRow w1.heap.size 5 1 v4 (T + 1 + 0) ((ints (padUp M 0)).map (Value.int .u8))) := by
        show World.ownsRow _ _ _ _ _ _ _
        rw [show padUp M 0 = M ++ [128] from rfl, ints_append, List.map_append]; exact hown4
      have HB4 : Hid _ := hB4
      obtain ⟨z, hz⟩ : ∃ z, z = ShaMath.zerosOf T := ⟨_, rfl⟩
      have hzl : z < 64 := by rw [hz]; exact Nat.mod_lt _ (by decide)
      have hz56 : (T + 1 + z) % 64 = 56 := by rw [hz]; unfold ShaMath.zerosOf; omega
      have HZ0 : Hid _ := hz
      clear hown hown4 hB4 hB hz
      go_loopw [3] (fun x wr => ∃ j : Nat, j ≤ z ∧ wr.ownsRow w1.heap.size 5 1 x (T + 1 + j) ((ints (padUp M j)).map (Value.int .u8)) ∧ Below w1.heap.size w1 wr) (fun x _ => (match x with | .slice _ n _ => T + 100 - n | _ => 0))
      case atStart => exact ⟨0, by omega, HO4.out, HB4.out⟩
      case round =>
        clear HO4 HB4
        obtain ⟨j, hj, hown, hB⟩ := hrel
        obtain ⟨gm, cm, hvm, hgm, hncm, hcmm⟩ := own_some hown (by omega)
        subst hvm
        have hcm' : cm ≤ 9223372036854775807 := by unfold maxLen at hcmm; omega
        obtain ⟨L, hL, gL⟩ : ∃ L : Nat, T + 1 + j = L ∧ L = T + 1 + j := ⟨_, rfl, rfl⟩
        rw [hL] at hown hncm ⊢
        have HLj : Hid _ := gL
        by_cases hlt : j < z
        · have hne : (((L : Nat) : Int) % 64 != 56) = true := by simp; omega
          have hLl : L ≤ T + 70 := by omega
          clear hL gL
          go_wp2_with (at_builtin; refine wpList_append_own_any rfl (.tmp 33) (.tmp 34) 48 rfl w1.heap.size 5 i0 (.int .u8 0) 1 1 Tryz.underlying48 hi hz0 hz1 hz2 rfl (by decide) _ L _ rfl (hown.alloc _) (some ⟨wr.heap.size, 0, none⟩) 1 1 ([0].map (Value.int .u8)) rfl rfl (by intro h; cases h) (lit_row _ .u8 [0] 5 _ rfl).news (ints_oneCell _ _) (by unfold maxLen; omega) (by omega) (by simp; have := hB.size; omega) ?_; intro v5 w5 hown5 hgrow5)
          have hB5 := (hB.alloc hB.size _).grown hgrow5 (by simp; have := hB.size; omega) (own_ge hown)
          obtain ⟨g5, c5, hv5, _, _, _⟩ := own_some hown5 (by omega)
          subst hv5
          go_roundw
          case rel => exact ⟨j + 1, by omega, by rw [padUp_step, ints_append, List.map_append, show T + 1 + (j + 1) = L + 1 by have := HLj.out; omega]; exact hown5, hB5⟩
          case measure => show T + 100 - (L + 1) < T + 100 - L; omega
        · have hjz : j = z := by omega
          have hne : (((L : Nat) : Int) % 64 != 56) = false := by simp; omega
          have hLl : L ≤ T + 70 := by omega
          rw [hjz] at hown
          have HOW : Hid _ := hown
          clear hL gL hown hjz
          go_wp2_with fail
          refine Calls.mono (refFixed_any (Bt : Int) 8 wr (by omega) (by omega) (by decide) (by decide)) ?_
          rintro e w6 ⟨r6, rfl, hown6, hB6⟩
          rw [show held 8 = 8 from rfl] at hown6
          obtain ⟨g6, c6, hv6, _, hc6, hm6⟩ := own_some hown6 (by omega)
          subst hv6
          have hrow6 := own_shape hown6
          obtain ⟨a6, cc6, hv6, hrow6, _, _, _⟩ := hrow6
          rw [fixL_len] at hv6
          have hv6a : some ⟨g6, 0, none⟩ = a6 := by injection hv6
          rw [← hv6a] at hrow6
          have hown7 : w6.ownsRow w1.heap.size 5 1 (.slice (some ⟨gm, 0, none⟩) L cm) L ((ints (padUp M z)).map (Value.int .u8)) := World.ownsRow.kept HOW.out ⟨hB6.os, hB6.tape, hB6.output, hB6.size, fun k hk _ => hB6.block k hk⟩ (row := none) (by simp [Value.ownBlock])
          have hB7 : Below w1.heap.size w1 w6 := hB.trans (hB6.mono hB.size)
          clear hv6 hv6a hown6
          go_wp2_with (first | (refine wpList_build_is rfl 113 _ rfl [(0, .int .u32 1779033703), (1, .int .u32 3144134277), (2, .int .u32 1013904242), (3, .int .u32 2773480762), (4, .int .u32 1359893119), (5, .int .u32 2600822924), (6, .int .u32 528734635), (7, .int .u32 1541459225)] (by simp [Act.eval]) I0.toArray HBI.out ?_) | (refine wpList_store_arr rfl 113 (.tmp 6) (.tmp 40) rfl w8.heap.size 113 Z8 I0 rfl rfl (Arr.new w8 113 Z8 rfl) (by rw [HI8.out]; exact size47) (by rw [HZ8l.out, HI8.out]) HIo.out ?_) | (at_builtin; refine wpList_append_own_any rfl (.tmp 36) (.tmp 38) 48 rfl w1.heap.size 5 i0 (.int .u8 0) 1 1 Tryz.underlying48 hi hz0 hz1 hz2 rfl (by decide) _ L _ rfl hown7 (some ⟨g6, 0, none⟩) 8 c6 ((fixL 8 (Bt : Int)).map (Value.int .u8)) rfl (by rw [List.length_map, fixL_len]) (by intro h; cases h) hrow6.news (ints_oneCell _ _) (by unfold maxLen; omega) (by omega) hB7.size ?_; intro v8 w8 hown8 hgrow8; have hB8 := hB7.grown hgrow8 hB7.size (own_ge hown7); obtain ⟨g8, c8, hv8, hg8, hnc8, hcm8⟩ := own_some hown8 (by omega); subst hv8; clear hgrow8 hown7))
          obtain ⟨gh, hgh⟩ : ∃ g, g = w8.heap.size := ⟨_, rfl⟩
          have hlt8 := hown8.lt g8 rfl
          have HMM : Hid (padUp M z ++ ShaMath.fix8 Bt = M ++ ShaMath.pad M.length) := by show _ = _; rw [HZ0.out, ← HMl.out, HBt.out, ← HMl.out]; exact padUp_end M
          have hrow8 : Row .u8 w8 (some ⟨g8, 0, none⟩) (ints (M ++ ShaMath.pad M.length)) := by
            have hl8 : (ints (padUp M z) ++ fixL 8 (Bt : Int)).length = L + 8 := by rw [List.length_append, fixL_len, ints_len, padUp_len, HMl.out]; have := HLj.out; omega
            rw [← List.map_append] at hown8
            have := own_row hown8 (L + 8) (Nat.le_refl _)
            rw [List.take_of_length_le (by omega), fix8_ints, ← ints_append, HMM.out] at this
            exact this
          have HLM : Hid (L + 8 = (M ++ ShaMath.pad M.length).length) := by show _ = _; rw [← HMM.out, List.length_append, padUp_len, HMl.out]; have := HLj.out; simp [ShaMath.fix8]; omega
          have HMMb : Hid (∀ c ∈ M ++ ShaMath.pad M.length, c < 256) := by
            intro c hc
            rcases List.mem_append.1 hc with h | h
            · exact HMb.out c h
            · exact pad_lt _ c h
          have HDI : Hid (ShaMath.digest M = ShaMath.out (ShaMath.runN ((M ++ ShaMath.pad M.length).length / 64) ShaMath.init (M ++ ShaMath.pad M.length))) := rfl
          have HWH : Hid ((M ++ ShaMath.pad M.length).length % 64 = 0) := by show _ = _; rw [List.length_append]; exact ShaMath.pad_whole _
          obtain ⟨MM, hMM⟩ : ∃ MM, MM = M ++ ShaMath.pad M.length := ⟨_, rfl⟩
          rw [← hMM] at hrow8 HLM HMMb HDI HWH
          have hBw8 : Below w.heap.size w w8 := HB1.out.trans (hB8.mono HB1.out.size)
          have hA18 : Arr w8 w.heap.size 33 Z := Arr.later HA1.out hB8 (by have := HS1.out; omega)
          have HDG0 : Hid (Dg w ((w8.alloc (Obj.cells Z8.toArray 113)).setRow w8.heap.size I0.toArray) g8 MM Z) := by
            refine ⟨Row.setRow_other (Row.later hrow8 ((Below.refl _ _).alloc (Nat.le_refl _) _)) _ (by omega), (hA18.alloc _).row_other _ (by have := hA18.lt; omega), below_setRow (hBw8.alloc hBw8.size _) hBw8.size _⟩
          have HAH0 : Hid (Arr ((w8.alloc (Obj.cells Z8.toArray 113)).setRow w8.heap.size I0.toArray) gh 113 (u32s (ShaMath.runN 0 ShaMath.init MM).list)) := by
            rw [hgh]
            have := Arr.row (l' := I0) (Arr.new w8 113 Z8 rfl)
            rw [HI0.out] at this ⊢
            exact this
          have hghw : w.heap.size < gh := by rw [hgh]; exact hA18.lt
          have hg8h : g8 ≠ gh := by omega
          rw [← hgh] at HDG0 HAH0 ⊢
          generalize ((w8.alloc (Obj.cells Z8.toArray 113)).setRow gh I0.toArray) = w9 at *
          clear hgh hlt8 hrow8 hMM hB8 hBw8 hA18 hown8 HOW hB hB7 hB6 hrow6
          obtain ⟨LL, hLL⟩ : ∃ q, q = L + 8 := ⟨_, rfl⟩
          rw [← hLL] at hnc8 HLM ⊢
          have hLLl : LL ≤ 1099511628000 := by omega
          have hcm8' : c8 ≤ 9223372036854775807 := by unfold maxLen at hcm8; omega
          clear hLL
          go_loopw [7] (fun i wr => ∃ (A q : Nat), A ≤ LL ∧ i = .int .i64 A ∧ A = 64 * q ∧ Dg w wr g8 MM Z ∧ Arr wr gh 113 (u32s (ShaMath.runN q ShaMath.init MM).list)) (fun i _ => LL - (intOf i).toNat)
          case atStart => exact ⟨0, 0, by omega, rfl, rfl, HDG0.out, HAH0.out⟩
          case round =>
            clear HDG0 HAH0
            obtain ⟨A, q, hA, rfl, hAq, hD, hH⟩ := hrel
            have hwh : LL % 64 = 0 := by rw [HLM.out]; exact HWH.out
            by_cases hlt : A < LL
            · have hA64 : A + 64 ≤ LL := by omega
              have HAq : Hid _ := hAq
              have hpl : ((MM.drop (64 * q)).take 64).length = 64 := by rw [List.length_take, List.length_drop, ← HLM.out]; omega
              have hpb : ∀ c ∈ (MM.drop (64 * q)).take 64, c < 256 := fun c hc => HMMb.out c (ShaMath.mem_piece hc)
              have hok := ShaMath.runN_ok q ShaMath.init MM ShaMath.init_ok
              have hsn := ShaMath.runN_snoc q ShaMath.init MM
              have hbk : ∀ w', Below wr.heap.size wr w' → Calls Tryz.prog 67 #[.agg (u32s (ShaMath.runN q ShaMath.init MM).list).toArray, .slice (some ⟨g8, A, none⟩) 64 (c8 - A)] w' fun e w2 => e = .returned (.agg (u32s (ShaMath.runN (q + 1) ShaMath.init MM).list).toArray) ∧ Below w'.heap.size w' w2 := by
                intro w' h
                rw [hsn]
                refine block_any (ShaMath.runN q ShaMath.init MM) ((MM.drop (64 * q)).take 64) (some ⟨g8, A, none⟩) (c8 - A) w' (RefTab.later HT.out (hD.2.2.trans (h.mono hD.2.2.size)) htl) (by have := h.size; have := hD.2.2.size; omega) hok hpl hpb ?_ (by omega) (by unfold maxLen; omega)
                have hr := Row.later hD.1 h
                rw [hAq]
                exact row_piece hr (64 * q) 64
              have HBK : Hid _ := hbk
              have HD : Hid _ := hD
              have HH : Hid _ := hH
              have HSl : Hid ((u32s (ShaMath.runN q ShaMath.init MM).list).length = 8) := by show _ = _; rw [u32s_len]; rfl
              have HNl : Hid ((u32s (ShaMath.runN (q + 1) ShaMath.init MM).list).length = 8) := by show _ = _; rw [u32s_len]; rfl
              have HNo : Hid _ := u32s_one (ShaMath.runN (q + 1) ShaMath.init MM).list
              generalize u32s (ShaMath.runN q ShaMath.init MM).list = Sq at *
              obtain ⟨Sn, hSn⟩ : ∃ S, S = u32s (ShaMath.runN (q + 1) ShaMath.init MM).list := ⟨_, rfl⟩
              have HSn : Hid _ := hSn
              rw [← hSn] at HBK HNl HNo
              have hcne : ¬ c8 = A := by omega
              have hAI : (A : Int) ≤ (A : Int) + 64 := by omega
              have hAI2 : (A : Int) + 64 ≤ (c8 : Int) := by omega
              have hd : decide ((A : Int) < (LL : Int)) = true := by simp; omega
              have hA64e : A + 64 - A = 64 := by omega
              have hAw : IntKind.i64.wrap ((A : Int) + 64) = (A : Int) + 64 := IntWalk.i64_in _ ⟨by omega, by omega⟩
              have hAt : ((A : Int) + 64).toNat = A + 64 := by omega
              clear hAq hpl hpb hok hsn hbk hD hH hSn
              go_wp2_with fail
              refine wp_region_held_drew (S := fun _ => True) rfl trivial (fun hS => ?_)
              refine wpAnyH_take (i := 1) (v := ?_) rfl (by kernel_rfl) (by kernel_rfl) (by kernel_rfl) (fun _ _ _ h => h) (Or.inl ⟨by rfl, ?_⟩) hS ?_
              rotate_left 1
              · intro w hSw; (try dsimp only at hSw); go_simp <;> with_reducible rfl
              try simp only [List.getElem_toArray, List.getElem_cons_zero, List.getElem_cons_succ, Act.put, List.setIfInBounds_toArray, List.set_cons_zero, List.set_cons_succ]
              refine wpAnyH_take (i := 2) (v := ?_) rfl (by kernel_rfl) (by kernel_rfl) (by kernel_rfl) (fun _ _ _ h => h) (Or.inl ⟨by rfl, ?_⟩) hS ?_
              rotate_left 1
              · intro w hSw; (try dsimp only at hSw); go_simp <;> with_reducible rfl
              try simp only [List.getElem_toArray, List.getElem_cons_zero, List.getElem_cons_succ, Act.put, List.setIfInBounds_toArray, List.set_cons_zero, List.set_cons_succ]
              refine wpAnyH_take (i := 3) (v := ?_) rfl (by kernel_rfl) (by kernel_rfl) (by kernel_rfl) (fun _ _ _ h => h) (Or.inl ⟨by rfl, ?_⟩) hS ?_
              rotate_left 1
              · intro w hSw; (try dsimp only at hSw); go_simp <;> with_reducible rfl
              try simp only [List.getElem_toArray, List.getElem_cons_zero, List.getElem_cons_succ, Act.put, List.setIfInBounds_toArray, List.set_cons_zero, List.set_cons_succ]
              refine wpAnyH_take (i := 4) (v := ?_) rfl (by kernel_rfl) (by kernel_rfl) (by kernel_rfl) (fun _ _ _ h => h) (Or.inl ⟨by rfl, ?_⟩) hS ?_
              rotate_left 1
              · intro w hSw; (try dsimp only at hSw); go_simp <;> with_reducible rfl
              try simp only [List.getElem_toArray, List.getElem_cons_zero, List.getElem_cons_succ, Act.put, List.setIfInBounds_toArray, List.set_cons_zero, List.set_cons_succ]
              refine wpAnyH_take (i := 5) (v := ?_) rfl (by kernel_rfl) (by kernel_rfl) (by kernel_rfl) (fun _ _ _ h => h) (Or.inl ⟨by rfl, ?_⟩) hS ?_
              rotate_left 1
              · intro w hSw; (try dsimp only at hSw); go_simp <;> with_reducible rfl
              try simp only [List.getElem_toArray, List.getElem_cons_zero, List.getElem_cons_succ, Act.put, List.setIfInBounds_toArray, List.set_cons_zero, List.set_cons_succ]
              refine wpAnyH_ready (rs := [0]) (by kernel_rfl) (by simp) ?_
              refine AllReadyH.cons rfl (fun K hK => ?_) AllReadyH.nil
              rw [if_pos (by rfl)]
              refine wp_load_mid 113 (.tmp 6) rfl gh 0 rfl Sq (.array 8 112) (range_of_arr (Arr.drew HH.out)) Tryz.underlying113 rfl (by rw [HSl.out]; exact size47) ?_
              refine hK.out _ _ hS (fun hS => ?_)
              clear hK K
              try simp only [List.getElem_toArray, List.getElem_cons_zero, List.getElem_cons_succ, Act.put, List.setIfInBounds_toArray, List.set_cons_zero, List.set_cons_succ]
              refine wpAnyH_ready (rs := [6]) (by kernel_rfl) (by simp) ?_
              refine AllReadyH.cons rfl (fun K hK => ?_) AllReadyH.nil
              go_simp
              refine Calls.mono (HBK.out _ (Below.refl _ _).drew) ?_
              rintro e wx ⟨rfl, hBx⟩
              have HDx : Hid (Dg w wx g8 MM Z) := Dg.below (Dg.drew HD.out) hBx
              have HHx : Hid (Arr wx gh 113 Sq) := Arr.later (Arr.drew HH.out) hBx (Arr.lt HH.out)
              clear hBx
              refine hK.out _ _ trivial (fun hS => ?_)
              clear hK K
              try simp only [List.getElem_toArray, List.getElem_cons_zero, List.getElem_cons_succ, Act.put, List.setIfInBounds_toArray, List.set_cons_zero, List.set_cons_succ]
              refine wpAnyH_ready (rs := [7]) (by kernel_rfl) (by simp) ?_
              refine AllReadyH.cons rfl (fun K hK => ?_) AllReadyH.nil
              rw [if_pos (by rfl)]
              refine wp_store_seg 113 (.tmp 6) (.tmp 53) rfl gh 0 113 Sq Sn rfl rfl HHx.out (by rw [HNl.out]; exact size47) (by rw [HNl.out, HSl.out]; exact Nat.le_refl _) HNo.out ?_
              rw [show Sq.take 0 ++ Sn ++ Sq.drop (0 + Sn.length) = Sn by rw [HNl.out, List.take_zero, List.nil_append, List.drop_eq_nil_of_le (by rw [HSl.out]; exact Nat.le_refl _), List.append_nil]]
              refine hK.out _ _ trivial (fun hS => ?_)
              clear hK K hS
              try simp only [List.getElem_toArray, List.getElem_cons_zero, List.getElem_cons_succ, Act.put, List.setIfInBounds_toArray, List.set_cons_zero, List.set_cons_succ]
              refine wpAnyH_done (by kernel_rfl) ?_ _
              have HDy : Hid (Dg w (wx.setRow gh Sn.toArray) g8 MM Z) := ⟨Row.setRow_other HDx.out.1 _ hg8h, HDx.out.2.1.row_other _ (by omega), below_setRow HDx.out.2.2 (by omega) _⟩
              have HHy : Hid (Arr (wx.setRow gh Sn.toArray) gh 113 (u32s (ShaMath.runN (q + 1) ShaMath.init MM).list)) := by rw [← HSn.out]; exact Arr.row HHx.out
              generalize wx.setRow gh Sn.toArray = wy at *
              go_wp2
              go_roundw
              case rel => exact ⟨A + 64, q + 1, by omega, by go_num, by have := HAq.out; omega, HDy.out, HHy.out⟩
              case measure => simp [intOf]; omega
            · have hAL : A = LL := by omega
              have hq : q = MM.length / 64 := by rw [← HLM.out]; omega
              rw [hq] at hH
              have HDI2 := HDI.out
              generalize ShaMath.runN (MM.length / 64) ShaMath.init MM = S at *
              have HDI3 : Hid _ := HDI2
              have HD : Hid _ := hD
              have HH : Hid _ := hH
              have hd : decide ((A : Int) < (LL : Int)) = false := by simp; omega
              clear hAq hAL hq hD hH HDI HDI2
              have HA8 : Hid (Arr (wr.alloc (Obj.cells Z.toArray 33)) wr.heap.size 33 (u8v (fillAt (ShaMath.out S) 0))) := by
                rw [fillAt_zero, out_len, ← HZ.out]; exact Arr.new wr 33 Z rfl
              have HA2 : Hid (Arr (wr.alloc (Obj.cells Z.toArray 33)) w.heap.size 33 Z) := Arr.alloc HD.out.2.1 _
              have HAH : Hid (Arr (wr.alloc (Obj.cells Z.toArray 33)) gh 113 (u32s S.list)) := Arr.alloc HH.out _
              have HBB : Hid (Below w.heap.size w (wr.alloc (Obj.cells Z.toArray 33))) := HD.out.2.2.alloc HD.out.2.2.size _
              have hghr := Arr.lt HH.out
              go_wp2_with fail
              generalize (wr.alloc (Obj.cells Z.toArray 33)) = wz at *
              obtain ⟨go, hgo⟩ : ∃ g, g = wr.heap.size := ⟨_, rfl⟩
              have hgo1 : gh < go := by omega
              rw [← hgo] at HA8 ⊢
              clear hgo HD HH hghr
              go_loopw [9] (fun i wr => ∃ k : Nat, k ≤ 32 ∧ i = .int .i64 k ∧ Arr wr go 33 (u8v (fillAt (ShaMath.out S) k)) ∧ Arr wr w.heap.size 33 Z ∧ Arr wr gh 113 (u32s S.list) ∧ Below w.heap.size w wr) (fun i _ => 32 - (intOf i).toNat)
              case atStart => exact ⟨0, by omega, rfl, HA8.out, HA2.out, HAH.out, HBB.out⟩
              case round =>
                clear HA8 HA2 HAH HBB
                obtain ⟨k, hk, rfl, h4, h2, h3, hBw⟩ := hrel
                by_cases hlt : k < 32
                · have hol := out_len S
                  have hstep := fillAt_step (ShaMath.out S) k (by rw [hol]; exact hlt)
                  have hlen := fillAt_len (ShaMath.out S) k (by rw [hol]; exact hk)
                  rw [out_get S k hlt] at hstep
                  have hcell := h4.cell8 k (by rw [hlen, hol]; exact hlt)
                  have hfz := h4.frozen k
                  have hword := h3.cell32 (k / 4) (by rw [list8]; omega)
                  obtain ⟨t, ht1, ht2⟩ : ∃ t : Nat, (k : Int) % 4 = (t : Int) ∧ t = k % 4 := ⟨k % 4, by omega, rfl⟩
                  have ht1' : (k : Int).tmod 4 = (t : Int) := by rw [Int.tmod_eq_emod_of_nonneg (by omega)]; exact ht1
                  obtain ⟨u, hu1, hu2⟩ : ∃ u : Nat, (8 : Int) * (t : Int) = (u : Int) ∧ u = 8 * t := ⟨8 * t, by omega, rfl⟩
                  obtain ⟨v, hv1, hv2⟩ : ∃ v : Nat, (24 : Int) - (u : Int) = (v : Int) ∧ v = 8 * (3 - t) := ⟨8 * (3 - t), by omega, rfl⟩
                  rw [← ht2, ← hv2] at hstep
                  have hvl : v ≤ 24 := by omega
                  have hvI : (v : Int) ≤ 32 := by omega
                  generalize S.list[k / 4]?.getD 0 = Wd at *
                  generalize (fillAt (ShaMath.out S) k)[k]?.getD 0 = Dd at *
                  obtain ⟨b, hb1, hb2⟩ : ∃ b : Nat, (Wd : Int) / 2 ^ v % 256 = (b : Int) ∧ b = Wd / 2 ^ v % 256 := ⟨_, by simp, rfl⟩
                  rw [← hb2] at hstep
                  have HST : Hid _ := hstep
                  have H4 : Hid _ := h4
                  have H2 : Hid _ := h2
                  have H3 : Hid _ := h3
                  have hkq : k / 4 < 8 := by omega
                  clear hstep h4 h2 h3 hol hlen ht2 hu2 hv2 hb2
                  go_wp2
                  go_roundw
                  case rel => exact ⟨k + 1, by omega, by go_num, by rw [HST.out, ← u8v_set]; exact Arr.set H4.out _ _, Arr.set_other H2.out _ (by simp; omega) _, Arr.set_other H3.out _ (by simp; omega) _, hBw.setCell (by simp; omega) _⟩
                  case measure => simp [intOf]; omega
                · obtain rfl : k = 32 := by omega
                  rw [show fillAt (ShaMath.out S) 32 = ShaMath.out S from fillAt_end (ShaMath.out S), ← HDI3.out] at h4
                  have H4 : Hid _ := h4
                  have H2 : Hid _ := h2
                  have HDl : Hid ((u8v (ShaMath.digest M)).length = 32) := by show _ = _; rw [u8v_len, HDI3.out]; rfl
                  have HOd : Hid _ := u8v_one (ShaMath.digest M)
                  obtain ⟨R, hR⟩ : ∃ R, R = u8v (ShaMath.digest M) := ⟨_, rfl⟩
                  rw [← hR] at H4 HDl HOd
                  have HR : Hid (R = u8v (ShaMath.digest (nats (allB ps)))) := by show _ = _; rw [hR, HM.out]
                  clear h4 h2 hlt hR h3
                  go_wp2_with (first
                    | (refine wpList_load_mid rfl 33 (.tmp 8) rfl go 0 rfl R (.array 32 5) (range_of_arr H4.out) Tryz.underlying33 rfl (by rw [HDl.out]; exact size26) ?_)
                    | (refine wpList_store_arr rfl 33 (.tmp 2) (.tmp 70) rfl w.heap.size 33 Z R rfl rfl H2.out (by rw [HDl.out]; exact size26) (by rw [HZl.out, HDl.out]) HOd.out ?_))
                  (try simp only [Exit.inBlock, Exit.then])
                  refine ret_arr w.heap.size 33 R (.array 32 5) rfl rfl (Arr.row H2.out) Tryz.underlying33 rfl (by rw [HDl.out]; exact size26) rfl ⟨by rw [HR.out], below_setRow hBw (Nat.le_refl _) _⟩

end Go.Proofs.YteockpllnhjooaaGreatDoor

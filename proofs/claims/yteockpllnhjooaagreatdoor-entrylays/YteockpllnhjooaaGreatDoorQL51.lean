/-
  L6Lays.
-/
import Derived.Test.YteockpllnhjooaaGreatDoorQL44
import Derived.Test.YteockpllnhjooaaGreatDoorQL41
import Derived.Test.YteockpllnhjooaaGreatDoorQL45
import Derived.Test.YteockpllnhjooaaGreatDoorQL40
import Derived.Test.YteockpllnhjooaaGreatDoorQL49
import Derived.Test.YteockpllnhjooaaGreatDoorQL47
import Derived.Test.YteockpllnhjooaaGreatDoorQL01
import Derived.Test.YteockpllnhjooaaGreatDoorQL32
import Derived.Test.YteockpllnhjooaaGreatDoorQL50
import Derived.Deep.Cut
namespace Go.Proofs.YteockpllnhjooaaGreatDoor
open Go.RowKit NumMath
open EntMath (E)
set_option maxRecDepth 100000
set_option linter.unusedVariables false
set_option linter.unusedSimpArgs false
attribute [-simp] Tryz.isAgg33 Tryz.zeroValue33

theorem Env3.later {w w' : World} (h : Env3 w) (hb : Below w.heap.size w w') : Env3 w' := ⟨h.env.later hb, RefTab.later h.keys hb h.env.tabs.lt⟩
/-- Bytes lie where they lay once a variable has been made and filled. -/
theorem bytesRow {w : World} {o : Obj} {cs : Array Value} (u : World) {v : Value} {ys : List Int} (h : Bytes w v ys) : Bytes ((w.alloc o).setRow w.heap.size cs) v ys :=
  bytesLater h (below_setRow ((Below.refl _ _).alloc (Nat.le_refl _) _) (Nat.le_refl _) _)
theorem idN_false {e : E} (h : EntMath.right e = false) : idN e = List.replicate 32 0 := by unfold idN; rw [if_neg (by rw [h]; simp)]
theorem idN_true {e : E} (h : EntMath.right e = true) : ShaMath.digest (nats (EntMath.bytes e)) = idN e := by unfold idN; rw [if_pos h]; unfold EntMath.bytes; rw [if_pos h]; rfl
theorem read_own {e : E} (h : EntMath.right e = true) : EntMath.read (EntMath.bytes e) = (e, 0) := by unfold EntMath.bytes; rw [if_pos h]; exact EntMath.read_bytes h
theorem own_small (e : E) : ∀ s ∈ (EntMath.texts 5 (EntMath.bytes e)).1, s.length ≤ 10000 := EntMath.texts_small _ (EntMath.bytes_byte e) (by have := EntMath.bytes_len e; omega)

set_option maxHeartbeats 16000000 in
theorem entryLays_walk (e : E) (n1 n2 n3 : Int) (a4 : Option Addr) (xs4 : List Int) (cap4 : Nat) (a5 : Option Addr) (xs5 : List Int) (cap5 : Nat) (W : World) (ht : Env3 W) (hfa : InFit e)
    (w1 : (Lit.int .u8 n1).wf = true) (w2 : (Lit.int .u8 n2).wf = true) (w3 : (Lit.int .u16 n3).wf = true)
    (hr4 : Row .u16 W a4 xs4) (hc4 : xs4.length ≤ cap4) (hm4 : cap4 ≤ maxLen) (hn4 : a4 = none → cap4 = 0) (hw4 : ∀ n ∈ xs4, (Lit.int .u16 n).wf = true) (hs4 : cap4 * 2 ≤ 140737488351232)
    (hr5 : Row .u16 W a5 xs5) (hc5 : xs5.length ≤ cap5) (hm5 : cap5 ≤ maxLen) (hn5 : a5 = none → cap5 = 0) (hw5 : ∀ n ∈ xs5, (Lit.int .u16 n).wf = true) (hs5 : cap5 * 2 ≤ 140737488351232) :
    Calls Tryz.prog 4 #[entV e, .int .u8 n1, .int .u8 n2, .int .u16 n3, .slice a4 xs4.length cap4, .slice a5 xs5.length cap5] W fun r W' => r = .returned (.bool true) ∧ Below W.heap.size W W' := by
  have hb1 := bounds_u8 w1
  have hb2 := bounds_u8 w2
  have hb3 := bounds_u16 w3
  obtain ⟨k, rfl⟩ : ∃ n : Nat, n1 = (n : Int) := ⟨n1.toNat, by omega⟩
  obtain ⟨j, rfl⟩ : ∃ n : Nat, n2 = (n : Int) := ⟨n2.toNat, by omega⟩
  obtain ⟨t, rfl⟩ : ∃ n : Nat, n3 = (n : Int) := ⟨n3.toNat, by omega⟩
  obtain ⟨ts, rfl, hts⟩ := nats16k hw4
  obtain ⟨bs, rfl, hbs⟩ := nats16k hw5
  have hrow4 := vrow16k hr4
  have hrow5 := vrow16k hr5
  rw [List.length_map] at hc4 hc5 ⊢
  rw [List.length_map]
  have HT0 : Hid (Env3 W) := ht
  have HKn : Hid (∀ w, Below W.heap.size W w → _) := fun w hB => known_any w (ht.later hB).env
  have HSa : Hid (∀ w, _) := fun w => smallEnt_any e w
  have HSe : Hid (∀ w, _) := fun w => seatEntry_any k j t w (by omega) (by omega) (by omega)
  have HTi : Hid (ts.length ≤ 200 → ∀ w, Below W.heap.size W w → _) := fun hl w hB => seatTitle_any a4 cap4 ts w (VRow.later hrow4 hB) hts hc4 hm4 (by omega)
  have HRu : Hid (bs.length ≤ 500 → ∀ w, Below W.heap.size W w → _) := fun hl w hB => seatRunes_any a5 cap5 bs w (VRow.later hrow5 hB) hbs hc5 hm5 (by omega)
  have hsl := seatT_len bs
  have hsb := seatT_lt bs
  have HCu : Hid (bs.length ≤ 500 → ∀ w, _) := fun hl w => refCut_any (seatT bs) 400 w hsb (by omega) (by omega)
  have HXr : Hid (EntMath.right (seatX k j t (TxtMath.cutB (seatT ts) 120) (TxtMath.cutB (seatT bs) 400)) = true) := seatX_right k j t _ _ (TxtMath.cutB_twice _ _) (TxtMath.cutB_twice _ _)
  have HQ : Hid (smallE e = true → EFit e) := fun ha => small_efit hfa ha
  have HBy : Hid (∀ e, EFit e → ∀ w, Below W.heap.size W w → _) := fun e hF w hB => entBytes_any e w (ht.later hB).env.max hF
  have HRb : Hid (∀ e, EFit e → ∀ w, _) := fun e hF w => refEntBytes_any e w hF
  have HRi : Hid (∀ e, EFit e → ∀ w, Below W.heap.size W w → _) := fun e hF w hB => entRight_any e w (ht.later hB).env.max hF
  have HId : Hid (∀ e, EFit e → ∀ w, Below W.heap.size W w → _) := fun e hF w hB => entId_any e w (ht.later hB).env hF
  have HRd : Hid (∀ e, EFit e → ∀ w, Below W.heap.size W w → _) := fun e hF w hB => refEntId_any e w (ht.later hB).keys (ht.later hB).env.tabs.lt hF
  have HRe : Hid (∀ e : E, EntMath.right e = true → ∀ a c w, Below W.heap.size W w → Rest w a (EntMath.bytes e) c → Calls Tryz.prog 21 #[.slice a (EntMath.bytes e).length c] w fun r w' => r = .returned (.tuple #[entV e, .int .i64 0]) ∧ Below w.heap.size w w') := fun e hr a c w hB hR => by
    have := entRead_any a (EntMath.bytes e) c w (ht.later hB).env.max hR (EntMath.bytes_byte e) (own_small e)
    rw [read_own hr] at this
    exact this
  have HSu : Hid (∀ e : E, EntMath.right e = true → ∀ a c w, Below W.heap.size W w → Row .u8 w a (EntMath.bytes e) → (EntMath.bytes e).length ≤ c → c ≤ maxLen → Calls Tryz.prog 22 #[.slice (some ⟨w.heap.size, 0, none⟩) 1 1] (w.alloc (.cells #[.slice a (EntMath.bytes e).length c] 48)) fun r w' => r = .returned (.agg (u8v (idN e)).toArray) ∧ Below w.heap.size w w') := fun e hri a c w hB hr hc hm => by
    have hps := lit_parts w [⟨a, EntMath.bytes e, c⟩] 48 w.heap.size rfl (by intro p hp; simp at hp; subst hp; exact part_ok hr (EntMath.bytes_byte e) hc hm)
    have hbal : Below w.heap.size w (w.alloc (.cells #[.slice a (EntMath.bytes e).length c] 48)) := (Below.refl _ _).alloc (Nat.le_refl _) _
    have := shaSum_any (some ⟨w.heap.size, 0, none⟩) [⟨a, EntMath.bytes e, c⟩] 1 (w.alloc (.cells #[.slice a (EntMath.bytes e).length c] 48)) ((ht.later hB).env.later hbal).tabs hps (by simp) (by decide) (by have := EntMath.bytes_len e; simp [allB]; omega)
    have ea : allB [⟨a, EntMath.bytes e, c⟩] = EntMath.bytes e := by simp [allB]
    rw [ea, idN_true hri] at this
    refine this.mono ?_
    rintro r w' ⟨rfl, hb⟩
    exact ⟨rfl, hbal.trans (hb.mono hbal.size)⟩
  obtain ⟨n4, hn4'⟩ : ∃ n, n = ts.length := ⟨_, rfl⟩
  obtain ⟨n5, hn5'⟩ : ∃ n, n = bs.length := ⟨_, rfl⟩
  rw [← hn4', ← hn5']
  rw [← hn4'] at HTi
  rw [← hn5'] at HRu HCu
  unfold seatX at HXr
  generalize seatT ts = T at *
  generalize seatT bs = B at *
  generalize seatE k j t = s1 at *
  generalize TxtMath.cutB T 120 = T1 at *
  generalize TxtMath.cutB B 400 = B1 at *
  clear hfa ht w1 w2 w3 hb3 hr4 hc4 hm4 hn4 hw4 hs4 hr5 hc5 hm5 hn5 hw5 hs5 hrow4 hrow5 hts hbs hsl hsb hn4' hn5'
  have HA0 : Hid (EntAt (W.alloc (.cells #[.string (strN e.feed), .string (strN e.guid), .string (strN e.title), .string (strN e.link), .string (strN e.body), .int .i64 e.time] 23)) W.heap.size e) := EntAt.new W e
  have HL0 : Hid (Below W.heap.size W (W.alloc (.cells #[.string (strN e.feed), .string (strN e.guid), .string (strN e.title), .string (strN e.link), .string (strN e.body), .int .i64 e.time] 23))) := (Below.refl _ _).alloc (Nat.le_refl _) _
  unfold entV at HSa HSe HBy HRb HRi HId HRd HRe ⊢
  go_enter Tryz.func4, Tryz.ntmps4
  go_upto_region 1 with (fail)
  generalize W.alloc (.cells #[.string (strN e.feed), .string (strN e.guid), .string (strN e.title), .string (strN e.link), .string (strN e.body), .int .i64 e.time] 23) = w0 at *
  generalize hga : W.heap.size = ga at HA0 ⊢
  go_wp2_with fail
  refine Calls.mono (HKn.out _ HL0.out) ?_
  rintro r w21 ⟨rfl, hb21⟩
  have HA22 : Hid (EntAt w21 ga e) := HA0.out.later hb21 HA0.out.lt
  have HB23 : Hid (Below W.heap.size W w21) := HL0.out.trans (hb21.mono HL0.out.size)
  clear HA0 HL0 hb21
  obtain ⟨A_0, A_1, A_2, A_3, A_4, A_5⟩ := HA22.out.cells
  go_wp2_with fail
  refine Calls.mono (HSa.out _) ?_
  rintro r w24 ⟨rfl, hb24⟩
  have HA25 : Hid (EntAt w24 ga e) := HA22.out.later hb24 HA22.out.lt
  have HB26 : Hid (Below W.heap.size W w24) := HB23.out.trans (hb24.mono HB23.out.size)
  clear HA22 HB23 hb24
  clear A_0 A_1 A_2 A_3 A_4 A_5
  cases hsa : smallE e with
  | false =>
    go_wp2
    go_ret
    exact ⟨rfl, by first | exact HB26.out | (rw [← hga]; exact HB26.out)⟩
  | true =>
    have HFe : Hid (EFit e) := HQ.out hsa
    clear HSa HQ hsa HKn
    by_cases hl4 : 200 < n4
    · have hl4i : (200 : Int) < (n4 : Int) := by omega
      go_wp2
      go_ret
      exact ⟨rfl, by first | exact HB26.out | (rw [← hga]; exact HB26.out)⟩
    have hl4i : (n4 : Int) ≤ 200 := by omega
    by_cases hl5 : 500 < n5
    · have hl5i : (500 : Int) < (n5 : Int) := by omega
      go_wp2
      go_ret
      exact ⟨rfl, by first | exact HB26.out | (rw [← hga]; exact HB26.out)⟩
    have hl5i : (n5 : Int) ≤ 500 := by omega
    have HTi2 : Hid _ := HTi.out (by omega)
    have HRu2 : Hid _ := HRu.out (by omega)
    have HCu2 : Hid _ := HCu.out (by omega)
    clear HTi HRu HCu hl4 hl5
    go_wp2_with fail
    refine Calls.mono (HSe.out _) ?_
    rintro r w27 ⟨rfl, hb27⟩
    have HA28 : Hid (EntAt w27 ga e) := HA25.out.later hb27 HA25.out.lt
    have HB29 : Hid (Below W.heap.size W w27) := HB26.out.trans (hb27.mono HB26.out.size)
    clear HA25 HB26 hb27
    have HX30 : Hid (EntAt (w27.alloc (.cells #[.string ⟨#[]⟩, .string ⟨#[]⟩, .string ⟨#[]⟩, .string ⟨#[]⟩, .string ⟨#[]⟩, .int .i64 0] 23)) w27.heap.size EntMath.zero) := EntAt.new w27 EntMath.zero
    have hlt_gx_A : ga < w27.heap.size := HA28.out.lt
    have hle_gx : W.heap.size ≤ w27.heap.size := HB29.out.size
    have HA31 : Hid (EntAt ((w27.alloc (.cells #[.string ⟨#[]⟩, .string ⟨#[]⟩, .string ⟨#[]⟩, .string ⟨#[]⟩, .string ⟨#[]⟩, .int .i64 0] 23)).setRow w27.heap.size (entL s1).toArray) ga e) := EntAt.row_other (HA28.out.alloc _) _ (by omega)
    have HB32 : Hid (Below W.heap.size W ((w27.alloc (.cells #[.string ⟨#[]⟩, .string ⟨#[]⟩, .string ⟨#[]⟩, .string ⟨#[]⟩, .string ⟨#[]⟩, .int .i64 0] 23)).setRow w27.heap.size (entL s1).toArray)) := below_setRow (HB29.out.alloc HB29.out.size _) (by omega) _
    have HX33 : Hid (EntAt ((w27.alloc (.cells #[.string ⟨#[]⟩, .string ⟨#[]⟩, .string ⟨#[]⟩, .string ⟨#[]⟩, .string ⟨#[]⟩, .int .i64 0] 23)).setRow w27.heap.size (entL s1).toArray) w27.heap.size s1) := EntAt.row HX30.out
    go_upto_region 6 with (refine wpList_store_ent rfl (.tmp 13) (.tmp 37) rfl w27.heap.size EntMath.zero s1 rfl rfl HX30.out ?_)
    clear HA28 HB29 HX30
    generalize (w27.alloc (.cells #[.string ⟨#[]⟩, .string ⟨#[]⟩, .string ⟨#[]⟩, .string ⟨#[]⟩, .string ⟨#[]⟩, .int .i64 0] 23)).setRow w27.heap.size (entL s1).toArray = w34 at *
    generalize w27.heap.size = gx at *
    go_wp2_with fail
    refine Calls.mono (HTi2.out _ HB32.out) ?_
    rintro r w35 ⟨rfl, hb35⟩
    have HA36 : Hid (EntAt w35 ga e) := HA31.out.later hb35 HA31.out.lt
    have HX37 : Hid (EntAt w35 gx s1) := HX33.out.later hb35 HX33.out.lt
    have HB38 : Hid (Below W.heap.size W w35) := HB32.out.trans (hb35.mono HB32.out.size)
    clear HA31 HX33 HB32 hb35
    go_wp2_with fail
    refine Calls.mono (HRu2.out _ HB38.out) ?_
    rintro r w39 ⟨rfl, hb39⟩
    have HA40 : Hid (EntAt w39 ga e) := HA36.out.later hb39 HA36.out.lt
    have HX41 : Hid (EntAt w39 gx s1) := HX37.out.later hb39 HX37.out.lt
    have HB42 : Hid (Below W.heap.size W w39) := HB38.out.trans (hb39.mono HB38.out.size)
    clear HA36 HX37 HB38 hb39
    go_wp2_with fail
    refine Calls.mono (HCu2.out _) ?_
    rintro r w43 ⟨rfl, hb43⟩
    have HA44 : Hid (EntAt w43 ga e) := HA40.out.later hb43 HA40.out.lt
    have HX45 : Hid (EntAt w43 gx s1) := HX41.out.later hb43 HX41.out.lt
    have HB46 : Hid (Below W.heap.size W w43) := HB42.out.trans (hb43.mono HB42.out.size)
    clear HA40 HX41 HB42 hb43
    obtain ⟨X_0, X_1, X_2, X_3, X_4, X_5⟩ := HX45.out.cells
    have hf2 := EntAt.frozen HX45.out 2
    have hf4 := EntAt.frozen HX45.out 4
    have hltX := HX45.out.lt
    have hltA := HA44.out.lt
    have HX1 : Hid (EntAt ((w43.setCell ⟨gx, 2, none⟩ (.string (strN T1))).setCell ⟨gx, 4, none⟩ (.string (strN B1))) gx ⟨s1.feed, s1.guid, T1, s1.link, B1, s1.time⟩) := ⟨Arr.set (Arr.set HX45.out.arr 2 _) 4 _⟩
    have HA1 : Hid (EntAt ((w43.setCell ⟨gx, 2, none⟩ (.string (strN T1))).setCell ⟨gx, 4, none⟩ (.string (strN B1))) ga e) := ⟨Arr.set_other (Arr.set_other HA44.out.arr _ (by show ga ≠ gx; omega) _) _ (by show ga ≠ gx; omega) _⟩
    have HB1 : Hid (Below W.heap.size W ((w43.setCell ⟨gx, 2, none⟩ (.string (strN T1))).setCell ⟨gx, 4, none⟩ (.string (strN B1)))) := (HB46.out.setCell (by show W.heap.size ≤ gx; omega) _).setCell (by show W.heap.size ≤ gx; omega) _
    clear HA44 HX45 HB46
    go_upto_region 7 with (fail)
    generalize (w43.setCell ⟨gx, 2, none⟩ (.string (strN T1))).setCell ⟨gx, 4, none⟩ (.string (strN B1)) = w47 at *
    clear X_0 X_1 X_2 X_3 X_4 X_5 hf2 hf4 hltX
    obtain ⟨x, hx⟩ : ∃ x : E, x = ⟨s1.feed, s1.guid, T1, s1.link, B1, s1.time⟩ := ⟨_, rfl⟩
    rw [← hx] at HX1 HXr
    clear hx HSe HTi2 HRu2 HCu2
    obtain ⟨A_0, A_1, A_2, A_3, A_4, A_5⟩ := HA1.out.cells
    obtain ⟨X_0, X_1, X_2, X_3, X_4, X_5⟩ := HX1.out.cells
    have HG0 : Hid (Arr (w47.alloc (.cells #[.string (strN e.feed), .string (strN e.guid), .string (strN e.title), .string (strN e.link), .string (strN e.body), .int .i64 e.time, .string (strN x.feed), .string (strN x.guid), .string (strN x.title), .string (strN x.link), .string (strN x.body), .int .i64 x.time] 23)) w47.heap.size 23 (flatE [e, x])) := Arr.new w47 23 (flatE [e, x]) rfl
    have HA48 : Hid (EntAt (w47.alloc (.cells #[.string (strN e.feed), .string (strN e.guid), .string (strN e.title), .string (strN e.link), .string (strN e.body), .int .i64 e.time, .string (strN x.feed), .string (strN x.guid), .string (strN x.title), .string (strN x.link), .string (strN x.body), .int .i64 x.time] 23)) ga e) := HA1.out.alloc _
    have HX49 : Hid (EntAt (w47.alloc (.cells #[.string (strN e.feed), .string (strN e.guid), .string (strN e.title), .string (strN e.link), .string (strN e.body), .int .i64 e.time, .string (strN x.feed), .string (strN x.guid), .string (strN x.title), .string (strN x.link), .string (strN x.body), .int .i64 x.time] 23)) gx x) := HX1.out.alloc _
    have HB50 : Hid (Below W.heap.size W (w47.alloc (.cells #[.string (strN e.feed), .string (strN e.guid), .string (strN e.title), .string (strN e.link), .string (strN e.body), .int .i64 e.time, .string (strN x.feed), .string (strN x.guid), .string (strN x.title), .string (strN x.link), .string (strN x.body), .int .i64 x.time] 23))) := HB1.out.alloc HB1.out.size _
    clear HA1 HX1 HB1
    go_upto_region 8 with (fail)
    clear A_0 A_1 A_2 A_3 A_4 A_5 X_0 X_1 X_2 X_3 X_4 X_5 HA48
    generalize w47.alloc (.cells #[.string (strN e.feed), .string (strN e.guid), .string (strN e.title), .string (strN e.link), .string (strN e.body), .int .i64 e.time, .string (strN x.feed), .string (strN x.guid), .string (strN x.title), .string (strN x.link), .string (strN x.body), .int .i64 x.time] 23) = w5 at *
    generalize w47.heap.size = g at *
    have HFx : Hid (EFit x) := EFit.of (EntMath.right_fit HXr.out)
    have HQm : Hid (∀ i, i < 2 → EFit ([e, x][i]?.getD EntMath.zero)) := fun i hi => by
      match i, hi with
      | 0, _ => exact HFe.out
      | 1, _ => exact HFx.out
    have HGc : Hid (∀ w i, i < 2 → Arr w g 23 (flatE [e, x]) → _) := fun w i hi h => row_cells h i (by simpa using hi)
    obtain ⟨L, hL⟩ : ∃ L, L = [e, x] := ⟨_, rfl⟩
    rw [← hL] at HG0 HQm HGc
    clear hL HFe
    go_loopw [49] (fun i wr => ∃ m : Nat, m ≤ 2 ∧ i = .int .i64 m ∧ Arr wr g 23 (flatE L) ∧ EntAt wr gx x ∧ Below W.heap.size W wr) (fun i _ => 2 - (intOf i).toNat)
    case atStart => exact ⟨0, by omega, rfl, HG0.out, HX49.out, HB50.out⟩
    case round =>
      obtain ⟨m, hm, rfl, hG, hX, hB⟩ := hrel
      have HG : Hid (Arr wr g 23 (flatE L)) := hG
      have HX : Hid (EntAt wr gx x) := hX
      have HB : Hid (Below W.heap.size W wr) := hB
      clear hG hX hB HG0 HX49 HB50
      by_cases hmn : m < 2
      · have hmi : (m : Int) < 2 := by omega
        have HFm : Hid (EFit (L[m]?.getD EntMath.zero)) := HQm.out m hmn
        have HGm : Hid (∀ w, Arr w g 23 (flatE L) → _) := fun w h => HGc.out w m hmn h
        generalize L[m]?.getD EntMath.zero = em at HGm HFm
        obtain ⟨p0, p1, p2, p3, p4, p5⟩ := HGm.out _ HG.out
        have HX101 : Hid (EntAt (wr.alloc (.cells #[.string ⟨#[]⟩, .string ⟨#[]⟩, .string ⟨#[]⟩, .string ⟨#[]⟩, .string ⟨#[]⟩, .int .i64 0] 23)) wr.heap.size EntMath.zero) := EntAt.new wr EntMath.zero
        have hlt_gv_G : g < wr.heap.size := Arr.lt HG.out
        have hlt_gv_X : gx < wr.heap.size := HX.out.lt
        have hle_gv : W.heap.size ≤ wr.heap.size := HB.out.size
        have HG102 : Hid (Arr ((wr.alloc (.cells #[.string ⟨#[]⟩, .string ⟨#[]⟩, .string ⟨#[]⟩, .string ⟨#[]⟩, .string ⟨#[]⟩, .int .i64 0] 23)).setRow wr.heap.size (entL em).toArray) g 23 (flatE L)) := Arr.row_other (Arr.alloc HG.out _) _ (by omega)
        have HX103 : Hid (EntAt ((wr.alloc (.cells #[.string ⟨#[]⟩, .string ⟨#[]⟩, .string ⟨#[]⟩, .string ⟨#[]⟩, .string ⟨#[]⟩, .int .i64 0] 23)).setRow wr.heap.size (entL em).toArray) gx x) := EntAt.row_other (HX.out.alloc _) _ (by omega)
        have HB104 : Hid (Below W.heap.size W ((wr.alloc (.cells #[.string ⟨#[]⟩, .string ⟨#[]⟩, .string ⟨#[]⟩, .string ⟨#[]⟩, .string ⟨#[]⟩, .int .i64 0] 23)).setRow wr.heap.size (entL em).toArray)) := below_setRow (HB.out.alloc HB.out.size _) (by omega) _
        have HV105 : Hid (EntAt ((wr.alloc (.cells #[.string ⟨#[]⟩, .string ⟨#[]⟩, .string ⟨#[]⟩, .string ⟨#[]⟩, .string ⟨#[]⟩, .int .i64 0] 23)).setRow wr.heap.size (entL em).toArray) wr.heap.size em) := EntAt.row HX101.out
        go_upto_region 10 with (refine wpList_store_ent rfl (.tmp 15) (.tmp 52) rfl wr.heap.size EntMath.zero em rfl rfl HX101.out ?_)
        clear HG HX HB HX101 hlt_gv_G hlt_gv_X
        generalize (wr.alloc (.cells #[.string ⟨#[]⟩, .string ⟨#[]⟩, .string ⟨#[]⟩, .string ⟨#[]⟩, .string ⟨#[]⟩, .int .i64 0] 23)).setRow wr.heap.size (entL em).toArray = w106 at *
        generalize wr.heap.size = gv at *
        clear p0 p1 p2 p3 p4 p5
        obtain ⟨V_0, V_1, V_2, V_3, V_4, V_5⟩ := HV105.out.cells
        go_wp2_with fail
        refine Calls.mono (HBy.out em HFm.out _ HB104.out) ?_
        rintro r w107 ⟨v, rfl, hby, hb107⟩
        clear V_0 V_1 V_2 V_3 V_4 V_5
        have HG108 : Hid (Arr w107 g 23 (flatE L)) := Arr.later HG102.out hb107 (Arr.lt HG102.out)
        have HX109 : Hid (EntAt w107 gx x) := HX103.out.later hb107 HX103.out.lt
        have HV110 : Hid (EntAt w107 gv em) := HV105.out.later hb107 HV105.out.lt
        have HB111 : Hid (Below W.heap.size W w107) := HB104.out.trans (hb107.mono HB104.out.size)
        clear HG102 HX103 HV105 HB104 hb107
        obtain ⟨ab, cb, rfl, hrb, hbb, hcb, hmb, hnb⟩ := hby
        have HMb : Hid ((EntMath.bytes em).length ≤ cb ∧ cb ≤ maxLen ∧ (ab = none → cb = 0)) := ⟨hcb, hmb, hnb⟩
        have HQ112 : Hid (Bytes w107 (.slice ab (EntMath.bytes em).length cb) (EntMath.bytes em)) := ⟨ab, cb, rfl, hrb, hbb, hcb, hmb, hnb⟩
        clear hrb hbb hcb hmb hnb
        obtain ⟨lb, hlb⟩ : ∃ lb, lb = (EntMath.bytes em).length := ⟨_, rfl⟩
        rw [← hlb] at HQ112 HMb ⊢
        have HLb : Hid (lb = (EntMath.bytes em).length) := hlb
        clear hlb
        go_upto_region 11 with (fail)
        have HG113 : Hid (Arr w107.drew g 23 (flatE L)) := Arr.drew HG108.out
        have HX114 : Hid (EntAt w107.drew gx x) := ⟨Arr.drew HX109.out.arr⟩
        have HV115 : Hid (EntAt w107.drew gv em) := ⟨Arr.drew HV110.out.arr⟩
        have HQ116 : Hid (Bytes w107.drew (.slice ab lb cb) (EntMath.bytes em)) := bytesDrew HQ112.out
        have HB117 : Hid (Below W.heap.size W w107.drew) := HB111.out.drew
        clear HG108 HX109 HV110 HQ112 HB111
        refine wp_region_held_drew (S := fun w' => w'.cell? ⟨gv, 0, none⟩ = some (.string (strN em.feed)) ∧ w'.cell? ⟨gv, 1, none⟩ = some (.string (strN em.guid)) ∧ w'.cell? ⟨gv, 2, none⟩ = some (.string (strN em.title)) ∧ w'.cell? ⟨gv, 3, none⟩ = some (.string (strN em.link)) ∧ w'.cell? ⟨gv, 4, none⟩ = some (.string (strN em.body)) ∧ w'.cell? ⟨gv, 5, none⟩ = some (.int .i64 em.time) ∧ (convert 48 9 (.slice ab lb cb)).run Tryz.prog w' = .ok (.string (strOfNums (EntMath.bytes em))) w') (by kernel_rfl) ⟨HV115.out.cells.1, HV115.out.cells.2.1, HV115.out.cells.2.2.1, HV115.out.cells.2.2.2.1, HV115.out.cells.2.2.2.2.1, HV115.out.cells.2.2.2.2.2, bytesString HQ116.out⟩ (fun hS => ?_)
        generalize w107.drew = v0 at *
        refine wpAnyH_take (i := 0) (v := ?_) rfl (by kernel_rfl) (by kernel_rfl) (by kernel_rfl) (fun _ _ _ h => h) (Or.inl ⟨by rfl, ?_⟩) hS ?_
        rotate_left 1
        · intro w hSw; (try dsimp only at hSw); go_simp <;> with_reducible rfl
        simp only [List.getElem_toArray, List.getElem_cons_zero, List.getElem_cons_succ, Act.put, List.setIfInBounds_toArray, List.set_cons_zero, List.set_cons_succ]
        refine wpAnyH_take (i := 1) (v := ?_) rfl (by kernel_rfl) (by kernel_rfl) (by kernel_rfl) (fun _ _ _ h => h) (Or.inl ⟨by rfl, ?_⟩) hS ?_
        rotate_left 1
        · intro w hSw; (try dsimp only at hSw); go_simp <;> with_reducible rfl
        simp only [List.getElem_toArray, List.getElem_cons_zero, List.getElem_cons_succ, Act.put, List.setIfInBounds_toArray, List.set_cons_zero, List.set_cons_succ]
        refine wpAnyH_take (i := 2) (v := ?_) rfl (by kernel_rfl) (by kernel_rfl) (by kernel_rfl) (fun _ _ _ h => h) (Or.inl ⟨by rfl, ?_⟩) hS ?_
        rotate_left 1
        · intro w hSw; (try dsimp only at hSw); go_simp <;> with_reducible rfl
        simp only [List.getElem_toArray, List.getElem_cons_zero, List.getElem_cons_succ, Act.put, List.setIfInBounds_toArray, List.set_cons_zero, List.set_cons_succ]
        refine wpAnyH_ready (rs := [3]) (by kernel_rfl) (by simp) ?_
        refine AllReadyH.cons rfl (fun K hK => ?_) AllReadyH.nil
        go_simp
        refine Calls.mono (HRb.out em HFm.out _) ?_
        rintro r v1 ⟨x2, rfl, hby2, hbx⟩
        have HG118 : Hid (Arr v1 g 23 (flatE L)) := Arr.later HG113.out hbx (Arr.lt HG113.out)
        have HX119 : Hid (EntAt v1 gx x) := HX114.out.later hbx HX114.out.lt
        have HV120 : Hid (EntAt v1 gv em) := HV115.out.later hbx HV115.out.lt
        have HQ121 : Hid (Bytes v1 (.slice ab lb cb) (EntMath.bytes em)) := bytesLater HQ116.out hbx
        have HB122 : Hid (Below W.heap.size W v1) := HB117.out.trans (hbx.mono HB117.out.size)
        clear HG113 HX114 HV115 HQ116 HB117 hbx
        refine hK.out _ _ ⟨HV120.out.cells.1, HV120.out.cells.2.1, HV120.out.cells.2.2.1, HV120.out.cells.2.2.2.1, HV120.out.cells.2.2.2.2.1, HV120.out.cells.2.2.2.2.2, bytesString HQ121.out⟩ (fun hS => ?_)
        clear hK K
        have HR123 : Hid (Bytes v1 x2 (EntMath.bytes em)) := hby2
        clear hby2
        refine wpAnyH_weaken (S2 := fun w' => w'.cell? ⟨gv, 0, none⟩ = some (.string (strN em.feed)) ∧ w'.cell? ⟨gv, 1, none⟩ = some (.string (strN em.guid)) ∧ w'.cell? ⟨gv, 2, none⟩ = some (.string (strN em.title)) ∧ w'.cell? ⟨gv, 3, none⟩ = some (.string (strN em.link)) ∧ w'.cell? ⟨gv, 4, none⟩ = some (.string (strN em.body)) ∧ w'.cell? ⟨gv, 5, none⟩ = some (.int .i64 em.time) ∧ (convert 48 9 (.slice ab lb cb)).run Tryz.prog w' = .ok (.string (strOfNums (EntMath.bytes em))) w' ∧ (convert 48 9 x2).run Tryz.prog w' = .ok (.string (strOfNums (EntMath.bytes em))) w') (fun w h => ⟨h.1, h.2.1, h.2.2.1, h.2.2.2.1, h.2.2.2.2.1, h.2.2.2.2.2.1, h.2.2.2.2.2.2.1⟩) _ _ _ _ ?_
        have hS : _ := And.intro HV120.out.cells.1 (And.intro HV120.out.cells.2.1 (And.intro HV120.out.cells.2.2.1 (And.intro HV120.out.cells.2.2.2.1 (And.intro HV120.out.cells.2.2.2.2.1 (And.intro HV120.out.cells.2.2.2.2.2 (And.intro (bytesString HQ121.out) (bytesString HR123.out)))))))
        have heq2 : ((strOfNums (EntMath.bytes em)).toList == (strOfNums (EntMath.bytes em)).toList) = true := by simp
        refine wpAnyH_take (i := 4) (v := ?_) rfl (by kernel_rfl) (by kernel_rfl) (by kernel_rfl) (fun _ _ _ h => h) (Or.inl ⟨by rfl, ?_⟩) hS ?_
        rotate_left 1
        · intro w hSw; (try dsimp only at hSw); go_simp <;> with_reducible rfl
        simp only [List.getElem_toArray, List.getElem_cons_zero, List.getElem_cons_succ, Act.put, List.setIfInBounds_toArray, List.set_cons_zero, List.set_cons_succ]
        refine wpAnyH_take (i := 5) (v := ?_) rfl (by kernel_rfl) (by kernel_rfl) (by kernel_rfl) (fun _ _ _ h => h) (Or.inl ⟨by rfl, ?_⟩) hS ?_
        rotate_left 1
        · intro w hSw; (try dsimp only at hSw); go_simp <;> with_reducible rfl
        simp only [List.getElem_toArray, List.getElem_cons_zero, List.getElem_cons_succ, Act.put, List.setIfInBounds_toArray, List.set_cons_zero, List.set_cons_succ]
        refine wpAnyH_take (i := 6) (v := ?_) rfl (by kernel_rfl) (by kernel_rfl) (by kernel_rfl) (fun _ _ _ h => h) (Or.inl ⟨by rfl, ?_⟩) hS ?_
        rotate_left 1
        · intro w hSw; (try dsimp only at hSw); go_simp <;> with_reducible rfl
        simp only [List.getElem_toArray, List.getElem_cons_zero, List.getElem_cons_succ, Act.put, List.setIfInBounds_toArray, List.set_cons_zero, List.set_cons_succ]
        refine wpAnyH_take (i := 7) (v := ?_) rfl (by kernel_rfl) (by kernel_rfl) (by kernel_rfl) (fun _ _ _ h => h) (Or.inl ⟨by rfl, ?_⟩) hS ?_
        rotate_left 1
        · intro w hSw; (try dsimp only at hSw); go_simp <;> with_reducible rfl
        simp only [List.getElem_toArray, List.getElem_cons_zero, List.getElem_cons_succ, Act.put, List.setIfInBounds_toArray, List.set_cons_zero, List.set_cons_succ]
        refine wpAnyH_take (i := 9) (v := ?_) rfl (by kernel_rfl) (by kernel_rfl) (by kernel_rfl) (fun _ _ _ h => h) (Or.inl ⟨by rfl, ?_⟩) hS ?_
        rotate_left 1
        · intro w hSw; (try dsimp only at hSw); go_simp <;> with_reducible rfl
        simp only [List.getElem_toArray, List.getElem_cons_zero, List.getElem_cons_succ, Act.put, List.setIfInBounds_toArray, List.set_cons_zero, List.set_cons_succ]
        clear heq2
        refine wpAnyH_ready (rs := [8]) (by kernel_rfl) (by simp) ?_
        refine AllReadyH.cons rfl (fun K hK => ?_) AllReadyH.nil
        go_simp
        refine Calls.mono (HId.out em HFm.out _ HB122.out) ?_
        rintro r v2 ⟨rfl, hbx⟩
        have HG124 : Hid (Arr v2 g 23 (flatE L)) := Arr.later HG118.out hbx (Arr.lt HG118.out)
        have HX125 : Hid (EntAt v2 gx x) := HX119.out.later hbx HX119.out.lt
        have HV126 : Hid (EntAt v2 gv em) := HV120.out.later hbx HV120.out.lt
        have HQ127 : Hid (Bytes v2 (.slice ab lb cb) (EntMath.bytes em)) := bytesLater HQ121.out hbx
        have HR128 : Hid (Bytes v2 x2 (EntMath.bytes em)) := bytesLater HR123.out hbx
        have HB129 : Hid (Below W.heap.size W v2) := HB122.out.trans (hbx.mono HB122.out.size)
        clear HG118 HX119 HV120 HQ121 HR123 HB122 hbx
        refine hK.out _ _ ⟨HV126.out.cells.1, HV126.out.cells.2.1, HV126.out.cells.2.2.1, HV126.out.cells.2.2.2.1, HV126.out.cells.2.2.2.2.1, HV126.out.cells.2.2.2.2.2, bytesString HQ127.out, bytesString HR128.out⟩ (fun hS => ?_)
        clear hK K
        refine wpAnyH_ready (rs := [10]) (by kernel_rfl) (by simp) ?_
        refine AllReadyH.cons rfl (fun K hK => ?_) AllReadyH.nil
        go_simp
        refine Calls.mono (HRd.out em HFm.out _ HB129.out) ?_
        rintro r v3 ⟨rfl, hbx⟩
        have HG130 : Hid (Arr v3 g 23 (flatE L)) := Arr.later HG124.out hbx (Arr.lt HG124.out)
        have HX131 : Hid (EntAt v3 gx x) := HX125.out.later hbx HX125.out.lt
        have HV132 : Hid (EntAt v3 gv em) := HV126.out.later hbx HV126.out.lt
        have HQ133 : Hid (Bytes v3 (.slice ab lb cb) (EntMath.bytes em)) := bytesLater HQ127.out hbx
        have HR134 : Hid (Bytes v3 x2 (EntMath.bytes em)) := bytesLater HR128.out hbx
        have HB135 : Hid (Below W.heap.size W v3) := HB129.out.trans (hbx.mono HB129.out.size)
        clear HG124 HX125 HV126 HQ127 HR128 HB129 hbx
        refine hK.out _ _ ⟨HV132.out.cells.1, HV132.out.cells.2.1, HV132.out.cells.2.2.1, HV132.out.cells.2.2.2.1, HV132.out.cells.2.2.2.2.1, HV132.out.cells.2.2.2.2.2, bytesString HQ133.out, bytesString HR134.out⟩ (fun hS => ?_)
        clear hK K
        have heq : ∀ w, (Op.equalIn 10000 33 (.agg (u8v (idN em)).toArray) (.agg (u8v (idN em)).toArray)).run Tryz.prog w = .ok true w := fun w => eq_same _ (idN_len em) w
        refine wpAnyH_take (i := 11) (v := ?_) rfl (by kernel_rfl) (by kernel_rfl) (by kernel_rfl) (fun _ _ _ h => h) (Or.inl ⟨by rfl, ?_⟩) hS ?_
        rotate_left 1
        · intro w hSw; (try dsimp only at hSw); go_simp <;> with_reducible rfl
        simp only [List.getElem_toArray, List.getElem_cons_zero, List.getElem_cons_succ, Act.put, List.setIfInBounds_toArray, List.set_cons_zero, List.set_cons_succ]
        refine wpAnyH_take (i := 12) (v := ?_) rfl (by kernel_rfl) (by kernel_rfl) (by kernel_rfl) (fun _ _ _ h => h) (Or.inl ⟨by rfl, ?_⟩) hS ?_
        rotate_left 1
        · intro w hSw; (try dsimp only at hSw); go_simp <;> with_reducible rfl
        simp only [List.getElem_toArray, List.getElem_cons_zero, List.getElem_cons_succ, Act.put, List.setIfInBounds_toArray, List.set_cons_zero, List.set_cons_succ]
        refine wpAnyH_done (by kernel_rfl) ?_ _
        clear hS heq
        clear HR134
        obtain ⟨V_0, V_1, V_2, V_3, V_4, V_5⟩ := HV132.out.cells
        go_wp2_with fail
        refine Calls.mono (HRi.out em HFm.out _ HB135.out) ?_
        rintro r w136 ⟨rfl, hb136⟩
        have HG137 : Hid (Arr w136 g 23 (flatE L)) := Arr.later HG130.out hb136 (Arr.lt HG130.out)
        have HX138 : Hid (EntAt w136 gx x) := HX131.out.later hb136 HX131.out.lt
        have HV139 : Hid (EntAt w136 gv em) := HV132.out.later hb136 HV132.out.lt
        have HQ140 : Hid (Bytes w136 (.slice ab lb cb) (EntMath.bytes em)) := bytesLater HQ133.out hb136
        have HB141 : Hid (Below W.heap.size W w136) := HB135.out.trans (hb136.mono HB135.out.size)
        clear HG130 HX131 HV132 HQ133 HB135 hb136
        clear V_0 V_1 V_2 V_3 V_4 V_5
        obtain ⟨V_0, V_1, V_2, V_3, V_4, V_5⟩ := HV139.out.cells
        cases hr : EntMath.right em with
        | false =>
          have hl0 : lb = 0 := by have := HLb.out; have := (EntMath.bytes_nil em).2 hr; omega
          clear HMb HLb HQ140
          subst hl0
          have HIf : Hid _ := HId.out em HFm.out _ HB141.out
          rw [idN_false hr] at HIf
          obtain ⟨z26, i26⟩ := zero_of_info zero26
          have heq : ∀ w, (Op.equalIn 10000 33 (.agg (u8v (List.replicate 32 0)).toArray) (.agg (u8v (List.replicate 32 0)).toArray)).run Tryz.prog w = .ok true w := fun w => eq_same _ rfl w
          obtain ⟨Z, hZ⟩ : ∃ Z, Z = u8v (List.replicate 32 0) := ⟨_, rfl⟩
          rw [← hZ] at z26 HIf heq
          clear hZ hr i26
          go_wp2_with fail
          refine Calls.mono (HIf.out) ?_
          rintro r w201 ⟨rfl, hb201⟩
          have HG202 : Hid (Arr w201 g 23 (flatE L)) := Arr.later HG137.out hb201 (Arr.lt HG137.out)
          have HX203 : Hid (EntAt w201 gx x) := HX138.out.later hb201 HX138.out.lt
          have HV204 : Hid (EntAt w201 gv em) := HV139.out.later hb201 HV139.out.lt
          have HB205 : Hid (Below W.heap.size W w201) := HB141.out.trans (hb201.mono HB141.out.size)
          clear HG137 HX138 HV139 HB141 hb201
          go_wp2
          go_roundw
          case rel => exact ⟨m + 1, by omega, by go_num, HG202.out, HX203.out, HB205.out⟩
          case measure => simp [intOf]; omega
        | true =>
          have HReq : Hid (∀ w, Below W.heap.size W w → Bytes w (.slice ab lb cb) (EntMath.bytes em) → Calls Tryz.prog 21 #[.slice ab lb cb] w fun r w' => r = .returned (.tuple #[.agg #[.string (strN em.feed), .string (strN em.guid), .string (strN em.title), .string (strN em.link), .string (strN em.body), .int .i64 em.time], .int .i64 0]) ∧ Below w.heap.size w w') := fun w hB hby => by
            obtain ⟨a, c, hv, hrow, _, h1, h2, h3⟩ := hby
            rw [HLb.out] at hv ⊢
            simp only [Value.slice.injEq] at hv
            obtain ⟨rfl, _, rfl⟩ := hv
            exact HRe.out em hr _ _ w hB ⟨hrow, h1, h2, h3⟩
          have HSum : Hid (∀ w, Below W.heap.size W w → Bytes w (.slice ab lb cb) (EntMath.bytes em) → Calls Tryz.prog 22 #[.slice (some ⟨w.heap.size, 0, none⟩) 1 1] (w.alloc (.cells #[.slice ab lb cb] 48)) fun r w' => r = .returned (.agg (u8v (idN em)).toArray) ∧ Below w.heap.size w w') := fun w hB hby => by
            obtain ⟨a, c, hv, hrow, _, h1, h2, h3⟩ := hby
            rw [HLb.out] at hv ⊢
            simp only [Value.slice.injEq] at hv
            obtain ⟨rfl, _, rfl⟩ := hv
            exact HSu.out em hr _ _ w hB hrow h1 h2
          clear hr HMb HLb
          go_wp2_with fail
          refine Calls.mono (HReq.out _ HB141.out HQ140.out) ?_
          rintro r w301 ⟨rfl, hb301⟩
          have HG302 : Hid (Arr w301 g 23 (flatE L)) := Arr.later HG137.out hb301 (Arr.lt HG137.out)
          have HX303 : Hid (EntAt w301 gx x) := HX138.out.later hb301 HX138.out.lt
          have HV304 : Hid (EntAt w301 gv em) := HV139.out.later hb301 HV139.out.lt
          have HQ305 : Hid (Bytes w301 (.slice ab lb cb) (EntMath.bytes em)) := bytesLater HQ140.out hb301
          have HB306 : Hid (Below W.heap.size W w301) := HB141.out.trans (hb301.mono HB141.out.size)
          clear HG137 HX138 HV139 HQ140 HB141 hb301
          clear V_0 V_1 V_2 V_3 V_4 V_5
          have HX307 : Hid (EntAt (w301.alloc (.cells #[.string ⟨#[]⟩, .string ⟨#[]⟩, .string ⟨#[]⟩, .string ⟨#[]⟩, .string ⟨#[]⟩, .int .i64 0] 23)) w301.heap.size EntMath.zero) := EntAt.new w301 EntMath.zero
          have hlt_gy_G : g < w301.heap.size := Arr.lt HG302.out
          have hlt_gy_X : gx < w301.heap.size := HX303.out.lt
          have hlt_gy_V : gv < w301.heap.size := HV304.out.lt
          have hle_gy : W.heap.size ≤ w301.heap.size := HB306.out.size
          have HG308 : Hid (Arr ((w301.alloc (.cells #[.string ⟨#[]⟩, .string ⟨#[]⟩, .string ⟨#[]⟩, .string ⟨#[]⟩, .string ⟨#[]⟩, .int .i64 0] 23)).setRow w301.heap.size (entL em).toArray) g 23 (flatE L)) := Arr.row_other (Arr.alloc HG302.out _) _ (by omega)
          have HX309 : Hid (EntAt ((w301.alloc (.cells #[.string ⟨#[]⟩, .string ⟨#[]⟩, .string ⟨#[]⟩, .string ⟨#[]⟩, .string ⟨#[]⟩, .int .i64 0] 23)).setRow w301.heap.size (entL em).toArray) gx x) := EntAt.row_other (HX303.out.alloc _) _ (by omega)
          have HV310 : Hid (EntAt ((w301.alloc (.cells #[.string ⟨#[]⟩, .string ⟨#[]⟩, .string ⟨#[]⟩, .string ⟨#[]⟩, .string ⟨#[]⟩, .int .i64 0] 23)).setRow w301.heap.size (entL em).toArray) gv em) := EntAt.row_other (HV304.out.alloc _) _ (by omega)
          have HQ311 : Hid (Bytes ((w301.alloc (.cells #[.string ⟨#[]⟩, .string ⟨#[]⟩, .string ⟨#[]⟩, .string ⟨#[]⟩, .string ⟨#[]⟩, .int .i64 0] 23)).setRow w301.heap.size (entL em).toArray) (.slice ab lb cb) (EntMath.bytes em)) := bytesRow (w301) HQ305.out
          have HB312 : Hid (Below W.heap.size W ((w301.alloc (.cells #[.string ⟨#[]⟩, .string ⟨#[]⟩, .string ⟨#[]⟩, .string ⟨#[]⟩, .string ⟨#[]⟩, .int .i64 0] 23)).setRow w301.heap.size (entL em).toArray)) := below_setRow (HB306.out.alloc HB306.out.size _) (by omega) _
          have HY313 : Hid (EntAt ((w301.alloc (.cells #[.string ⟨#[]⟩, .string ⟨#[]⟩, .string ⟨#[]⟩, .string ⟨#[]⟩, .string ⟨#[]⟩, .int .i64 0] 23)).setRow w301.heap.size (entL em).toArray) w301.heap.size em) := EntAt.row HX307.out
          go_upto_region 17 with (refine wpList_store_ent rfl (.tmp 17) (.tmp 83) rfl w301.heap.size EntMath.zero em rfl rfl HX307.out ?_)
          clear HG302 HX303 HV304 HQ305 HB306 HX307 hlt_gy_G hlt_gy_X hlt_gy_V
          generalize (w301.alloc (.cells #[.string ⟨#[]⟩, .string ⟨#[]⟩, .string ⟨#[]⟩, .string ⟨#[]⟩, .string ⟨#[]⟩, .int .i64 0] 23)).setRow w301.heap.size (entL em).toArray = w314 at *
          generalize w301.heap.size = gy at *
          obtain ⟨V_0, V_1, V_2, V_3, V_4, V_5⟩ := HV310.out.cells
          obtain ⟨Y_0, Y_1, Y_2, Y_3, Y_4, Y_5⟩ := HY313.out.cells
          go_wp2_with fail
          refine Calls.mono (HId.out em HFm.out _ HB312.out) ?_
          rintro r w315 ⟨rfl, hb315⟩
          have HG316 : Hid (Arr w315 g 23 (flatE L)) := Arr.later HG308.out hb315 (Arr.lt HG308.out)
          have HX317 : Hid (EntAt w315 gx x) := HX309.out.later hb315 HX309.out.lt
          have HV318 : Hid (EntAt w315 gv em) := HV310.out.later hb315 HV310.out.lt
          have HQ319 : Hid (Bytes w315 (.slice ab lb cb) (EntMath.bytes em)) := bytesLater HQ311.out hb315
          have HY320 : Hid (EntAt w315 gy em) := HY313.out.later hb315 HY313.out.lt
          have HB321 : Hid (Below W.heap.size W w315) := HB312.out.trans (hb315.mono HB312.out.size)
          clear HG308 HX309 HV310 HQ311 HY313 HB312 hb315
          clear V_0 V_1 V_2 V_3 V_4 V_5 Y_0 Y_1 Y_2 Y_3 Y_4 Y_5
          go_wp2_with fail
          refine Calls.mono (HSum.out _ HB321.out HQ319.out) ?_
          rintro r w322 ⟨rfl, hb322⟩
          have HG323 : Hid (Arr w322 g 23 (flatE L)) := Arr.later HG316.out hb322 (Arr.lt HG316.out)
          have HX324 : Hid (EntAt w322 gx x) := HX317.out.later hb322 HX317.out.lt
          have HV325 : Hid (EntAt w322 gv em) := HV318.out.later hb322 HV318.out.lt
          have HQ326 : Hid (Bytes w322 (.slice ab lb cb) (EntMath.bytes em)) := bytesLater HQ319.out hb322
          have HY327 : Hid (EntAt w322 gy em) := HY320.out.later hb322 HY320.out.lt
          have HB328 : Hid (Below W.heap.size W w322) := HB321.out.trans (hb322.mono HB321.out.size)
          clear HG316 HX317 HV318 HQ319 HY320 HB321 hb322
          have heq : ∀ w, (Op.equalIn 10000 33 (.agg (u8v (idN em)).toArray) (.agg (u8v (idN em)).toArray)).run Tryz.prog w = .ok true w := fun w => eq_same _ (idN_len em) w
          go_wp2
          go_roundw
          case rel => exact ⟨m + 1, by omega, by go_num, HG323.out, HX324.out, HB328.out⟩
          case measure => simp [intOf]; omega
      · have hmk : m = 2 := by omega
        have hdk : decide ((m : Int) < 2) = false := by simp; omega
        obtain ⟨q0, q1, q2, q3, q4, q5⟩ := HX.out.cells
        go_wp2_with fail
        have HRx : Hid _ := HRi.out x HFx.out _ HB.out
        rw [HXr.out] at HRx
        refine Calls.mono HRx.out ?_
        rintro r w9 ⟨rfl, hb9⟩
        have HB9 : Hid (Below W.heap.size W w9) := HB.out.trans (hb9.mono HB.out.size)
        clear hb9
        go_wp2
        go_ret
        exact ⟨rfl, by first | exact HB9.out | (rw [← hga]; exact HB9.out)⟩
end Go.Proofs.YteockpllnhjooaaGreatDoor

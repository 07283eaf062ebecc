/-
  FnRefEF.
-/
import Derived.Test.YteockpllnhjooaaGreatDoorQL47
import Derived.Test.YteockpllnhjooaaGreatDoorQL48
import Derived.Test.YteockpllnhjooaaGreatDoorQL40
namespace Go.Proofs.YteockpllnhjooaaGreatDoor
open Go.RowKit NumMath
open EntMath (E textB iN nI bytes0)
set_option maxRecDepth 100000
set_option linter.unusedVariables false
set_option linter.unusedSimpArgs false
attribute [-simp] Tryz.isAgg33 Tryz.zeroValue33

set_option maxHeartbeats 16000000 in
theorem refEntId_any (e : E) (w : World) (ht : RefTab w) (htl : 2 < w.heap.size) (hF : EFit e) :
    Calls Tryz.prog 20 #[entV e] w fun r w' => r = .returned (.agg (u8v (idN e)).toArray) ∧ Below w.heap.size w w' := by
  have HC : Hid (∀ w, _) := fun w => refEntRight_any e w hF
  have HBy : Hid (∀ w, _) := fun w => refEntBytes_any e w hF
  obtain ⟨z26, i26⟩ := zero_of_info zero26
  obtain ⟨Z, hZ⟩ : ∃ Z, Z = u8v (List.replicate 32 0) := ⟨_, rfl⟩
  rw [← hZ] at z26
  have HZ : Hid _ := hZ
  have HZl : Hid (Z.length = 32) := by show _ = _; rw [hZ, u8v_len]; simp
  have HZo : Hid (∀ v ∈ Z, v.oneCell' = true) := by rw [hZ]; exact u8v_one _
  have HA0 : Hid (EntAt ((w.alloc (.cells #[.string (strN e.feed), .string (strN e.guid), .string (strN e.title), .string (strN e.link), .string (strN e.body), .int .i64 e.time] 23)).alloc (.cells Z.toArray 33)) w.heap.size e) := (EntAt.new w e).alloc _
  have HB0 : Hid (Below w.heap.size w ((w.alloc (.cells #[.string (strN e.feed), .string (strN e.guid), .string (strN e.title), .string (strN e.link), .string (strN e.body), .int .i64 e.time] 23)).alloc (.cells Z.toArray 33))) := ((Below.refl _ _).alloc (Nat.le_refl _) _).alloc (by simp) _
  have HR0 : Hid (Arr ((w.alloc (.cells #[.string (strN e.feed), .string (strN e.guid), .string (strN e.title), .string (strN e.link), .string (strN e.body), .int .i64 e.time] 23)).alloc (.cells Z.toArray 33)) (w.heap.size + 1) 33 Z) := Arr.new _ _ Z (by simp)
  have HT : Hid (∀ w', Below w.heap.size w w' → RefTab w') := fun w' h => RefTab.later ht h htl
  have HTl : Hid _ := htl
  have HLen : Hid _ := EntMath.bytes_len e
  clear ht htl hF hZ i26
  unfold entV at *
  go_enter Tryz.func20, Tryz.ntmps20
  go_wp2_with fail
  generalize World.alloc (World.alloc w _) _ = W0 at *
  generalize hG : w.heap.size + 1 = G at *
  have hGw : w.heap.size ≤ G := by omega
  clear hG
  refine Calls.mono (HC.out _) ?_
  rintro r w1 ⟨rfl, hb⟩
  have HR1 : Hid (Arr w1 G 33 Z) := Arr.later HR0.out hb (Arr.lt HR0.out)
  have HA1 : Hid _ := HA0.out.later hb HA0.out.lt
  have HB1 : Hid _ := HB0.out.trans (hb.mono HB0.out.size)
  clear hb HR0 HA0 HB0
  cases hr : EntMath.right e with
  | false =>
    have HQ : Hid (Z = u8v (idN e)) := by show _ = _; unfold idN; rw [if_neg (by rw [hr]; simp)]; exact HZ.out
    clear hr
    go_wp2_with (refine wpList_store_arr rfl 33 (.tmp 2) (.tmp 6) rfl G 33 Z Z rfl rfl HR1.out (by rw [HZl.out]; exact size26) rfl HZo.out ?_)
    refine ret_arr G 33 Z (.array 32 5) rfl rfl (Arr.row HR1.out) Tryz.underlying33 rfl (by rw [HZl.out]; exact size26) rfl ⟨by rw [HQ.out], below_setRow HB1.out hGw _⟩
  | true =>
    have HQ : Hid (ShaMath.digest (nats (EntMath.bytes e)) = idN e) := by show _ = _; unfold idN; rw [if_pos hr]; unfold EntMath.bytes; rw [if_pos hr]; rfl
    clear hr
    obtain ⟨c0, c1, c2, c3, c4, c5⟩ := HA1.out.cells
    go_wp2_with fail
    refine Calls.mono (HBy.out _) ?_
    rintro r w2 ⟨v, rfl, hby, hb⟩
    obtain ⟨a, c, rfl, hrow, hbb, hc, hm, hn⟩ := hby
    have HR2 : Hid (Arr w2 G 33 Z) := Arr.later HR1.out hb (Arr.lt HR1.out)
    have HB2 : Hid _ := HB1.out.trans (hb.mono HB1.out.size)
    have HDg : Hid (Calls Tryz.prog 39 #[.slice (some ⟨w2.heap.size, 0, none⟩) 1 1] (w2.alloc (.cells #[.slice a (EntMath.bytes e).length c] 48)) fun r w' => r = .returned (.agg (u8v (ShaMath.digest (nats (EntMath.bytes e)))).toArray) ∧ Below w2.heap.size w2 w') := by
      have hps := lit_parts w2 [⟨a, EntMath.bytes e, c⟩] 48 w2.heap.size rfl (by intro p hp; simp at hp; subst hp; exact part_ok hrow hbb hc hm)
      have hbal : Below w2.heap.size w2 (w2.alloc (.cells #[.slice a (EntMath.bytes e).length c] 48)) := (Below.refl _ _).alloc (Nat.le_refl _) _
      have := digest_any (some ⟨w2.heap.size, 0, none⟩) [⟨a, EntMath.bytes e, c⟩] 1 (w2.alloc (.cells #[.slice a (EntMath.bytes e).length c] 48)) (HT.out _ (HB2.out.trans (hbal.mono HB2.out.size))) (by have := HTl.out; have := HB2.out.size; have := hbal.size; omega) hps (by intro p hp; simp at hp; subst hp; exact hn) (by simp) (by decide) (by have := HLen.out; simp [allB]; omega)
      have ea : allB [⟨a, EntMath.bytes e, c⟩] = EntMath.bytes e := by simp [allB]
      rw [ea] at this
      refine this.mono ?_
      rintro r w' ⟨rfl, hb⟩
      exact ⟨rfl, hbal.trans (hb.mono hbal.size)⟩
    generalize nats (EntMath.bytes e) = bn at *
    generalize (EntMath.bytes e).length = L at *
    clear hrow hbb hc hm hn hb HR1 HA1 HB1 c0 c1 c2 c3 c4 c5
    obtain ⟨R, hRR⟩ : ∃ R, R = u8v (ShaMath.digest bn) := ⟨_, rfl⟩
    have HRl : Hid (R.length = 32) := by show _ = _; rw [hRR, u8v_len]; rfl
    have HRo : Hid (∀ v ∈ R, v.oneCell' = true) := by rw [hRR]; exact u8v_one _
    rw [← hRR] at HDg
    have HRR : Hid (R = u8v (idN e)) := by show _ = _; rw [hRR, HQ.out]
    clear hRR
    go_wp2_with fail
    refine Calls.mono HDg.out ?_
    rintro r w3 ⟨rfl, hb2⟩
    have HR3 : Hid (Arr w3 G 33 Z) := Arr.later HR2.out hb2 (Arr.lt HR2.out)
    have HB3 : Hid _ := HB2.out.trans (hb2.mono HB2.out.size)
    clear hb2
    go_wp2_with (refine wpList_store_arr rfl 33 (.tmp 2) (.tmp 10) rfl G 33 Z R rfl rfl HR3.out (by rw [HRl.out]; exact size26) (by rw [HZl.out, HRl.out]) HRo.out ?_)
    refine ret_arr G 33 R (.array 32 5) rfl rfl (Arr.row HR3.out) Tryz.underlying33 rfl (by rw [HRl.out]; exact size26) rfl ⟨by rw [HRR.out], below_setRow HB3.out hGw _⟩
end Go.Proofs.YteockpllnhjooaaGreatDoor

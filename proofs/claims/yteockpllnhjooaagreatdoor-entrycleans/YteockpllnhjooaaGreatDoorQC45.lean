/-
  FnEntG.
-/
import Derived.Test.YteockpllnhjooaaGreatDoorQC42
import Derived.Test.YteockpllnhjooaaGreatDoorQC44
namespace Go.Proofs.YteockpllnhjooaaGreatDoor
open Go.RowKit NumMath
open EntMath (E textB iN nI bytes0)
set_option maxRecDepth 100000
set_option linter.unusedVariables false
set_option linter.unusedSimpArgs false
attribute [-simp] Tryz.isAgg33 Tryz.zeroValue33

/-- What the calls read of the package's variables. -/
structure Env (w : World) : Prop where
  tabs : Tabs w
  max : MaxLen w
theorem Env.later {w w' : World} (h : Env w) (hb : Below w.heap.size w w') : Env w' := ⟨h.tabs.later hb h.tabs.lt, h.max.later hb⟩
/-- An entry's id. -/
def idN (e : E) : List Nat := if EntMath.right e = true then ShaMath.digest (nI (bytes0 e)) else List.replicate 32 0
theorem idN_len (e : E) : (idN e).length = 32 := by unfold idN; split <;> rfl

set_option maxHeartbeats 16000000 in
theorem entId_any (e : E) (w : World) (ht : Env w) (hF : EFit e) :
    Calls Tryz.prog 19 #[entV e] w fun r w' => r = .returned (.agg (u8v (idN e)).toArray) ∧ Below w.heap.size w w' := by
  have HC : Hid (∀ w, MaxLen w → _) := fun w ht => entBytes_any e w ht hF
  obtain ⟨z26, i26⟩ := zero_of_info zero26
  obtain ⟨Z, hZ⟩ : ∃ Z, Z = u8v (List.replicate 32 0) := ⟨_, rfl⟩
  rw [← hZ] at z26
  have HZ : Hid _ := hZ
  have HZl : Hid (Z.length = 32) := by show _ = _; rw [hZ, u8v_len]; simp
  have HZo : Hid (∀ v ∈ Z, v.oneCell' = true) := by rw [hZ]; exact u8v_one _
  have HA0 : Hid _ := EntAt.new w e
  have HB0 : Hid (Below w.heap.size w ((w.alloc (.cells #[.string (strN e.feed), .string (strN e.guid), .string (strN e.title), .string (strN e.link), .string (strN e.body), .int .i64 e.time] 23)).alloc (.cells Z.toArray 33))) := ((Below.refl _ _).alloc (Nat.le_refl _) _).alloc (by simp) _
  have HR0 : Hid (Arr ((w.alloc (.cells #[.string (strN e.feed), .string (strN e.guid), .string (strN e.title), .string (strN e.link), .string (strN e.body), .int .i64 e.time] 23)).alloc (.cells Z.toArray 33)) (w.heap.size + 1) 33 Z) := Arr.new _ _ Z (by simp)
  have HT0 : Hid (Env _) := ht.later HB0.out
  have HLen : Hid _ := EntMath.bytes_len e
  have HNil : Hid _ := EntMath.bytes_nil e
  clear ht hF hZ i26
  unfold entV at *
  go_enter Tryz.func19, Tryz.ntmps19
  go_wp2_with fail
  generalize World.alloc (World.alloc w _) _ = W0 at *
  generalize hG : w.heap.size + 1 = G at *
  have hGw : w.heap.size ≤ G := by omega
  clear hG
  refine Calls.mono (HC.out _ HT0.out.max) ?_
  rintro r w1 ⟨v, rfl, hby, hb⟩
  obtain ⟨a, c, rfl, hrow, hbb, hc, hm, hn⟩ := hby
  have HR1 : Hid (Arr w1 G 33 Z) := Arr.later HR0.out hb (Arr.lt HR0.out)
  have HB1 : Hid _ := HB0.out.trans (hb.mono HB0.out.size)
  have HT1 : Hid (Env w1) := HT0.out.later hb
  have HSu : Hid (Calls Tryz.prog 22 #[.slice (some ⟨w1.heap.size, 0, none⟩) 1 1] (w1.alloc (.cells #[.slice a (EntMath.bytes e).length c] 48)) fun r w' => r = .returned (.agg (u8v (ShaMath.digest (nats (EntMath.bytes e)))).toArray) ∧ Below w1.heap.size w1 w') := by
    have hps := lit_parts w1 [⟨a, EntMath.bytes e, c⟩] 48 w1.heap.size rfl (by intro p hp; simp at hp; subst hp; exact part_ok hrow hbb hc hm)
    have hbal : Below w1.heap.size w1 (w1.alloc (.cells #[.slice a (EntMath.bytes e).length c] 48)) := (Below.refl _ _).alloc (Nat.le_refl _) _
    have := shaSum_any (some ⟨w1.heap.size, 0, none⟩) [⟨a, EntMath.bytes e, c⟩] 1 (w1.alloc (.cells #[.slice a (EntMath.bytes e).length c] 48)) ((HT1.out.later hbal).tabs) hps (by simp) (by decide) (by have := HLen.out; simp [allB]; omega)
    have ea : allB [⟨a, EntMath.bytes e, c⟩] = EntMath.bytes e := by simp [allB]
    rw [ea] at this
    refine this.mono ?_
    rintro r w' ⟨rfl, hb⟩
    exact ⟨rfl, hbal.trans (hb.mono hbal.size)⟩
  have HID : Hid (EntMath.right e = true → ShaMath.digest (nats (EntMath.bytes e)) = idN e) := by
    intro h; unfold idN; rw [if_pos h]; unfold EntMath.bytes; rw [if_pos h]; rfl
  have HID0 : Hid (EntMath.right e = false → Z = u8v (idN e)) := by
    intro h; unfold idN; rw [if_neg (by rw [h]; simp)]; exact HZ.out
  generalize nats (EntMath.bytes e) = bn at *
  generalize (EntMath.bytes e).length = L at *
  clear hrow hbb hc hm hn hb HR0 HB0 HT0 HT1
  by_cases hL : L = 0
  · have HQ : Hid (Z = u8v (idN e)) := HID0.out (HNil.out.1 hL)
    subst hL
    go_wp2_with (refine wpList_store_arr rfl 33 (.tmp 2) (.tmp 9) rfl G 33 Z Z rfl rfl HR1.out (by rw [HZl.out]; exact size26) rfl HZo.out ?_)
    refine ret_arr G 33 Z (.array 32 5) rfl rfl (Arr.row HR1.out) Tryz.underlying33 rfl (by rw [HZl.out]; exact size26) rfl ⟨by rw [HQ.out], below_setRow HB1.out hGw _⟩
  · have hR : EntMath.right e = true := by
      cases h : EntMath.right e with
      | true => rfl
      | false => exact absurd (HNil.out.2 h) hL
    have HQ : Hid _ := HID.out hR
    have hLp : 0 < L := by omega
    have hLp2 : (0 : Int) < (L : Int) := by omega
    clear hR hL HID HID0 HNil
    obtain ⟨R, hRR⟩ : ∃ R, R = u8v (ShaMath.digest bn) := ⟨_, rfl⟩
    have HRl : Hid (R.length = 32) := by show _ = _; rw [hRR, u8v_len]; rfl
    have HRo : Hid (∀ v ∈ R, v.oneCell' = true) := by rw [hRR]; exact u8v_one _
    rw [← hRR] at HSu
    have HRR : Hid (R = u8v (idN e)) := by show _ = _; rw [hRR, HQ.out]
    clear hRR
    go_wp2_with fail
    refine Calls.mono HSu.out ?_
    rintro r w2 ⟨rfl, hb2⟩
    have HR2 : Hid (Arr w2 G 33 Z) := Arr.later HR1.out hb2 (Arr.lt HR1.out)
    have HB2 : Hid _ := HB1.out.trans (hb2.mono HB1.out.size)
    clear hb2
    go_wp2_with (refine wpList_store_arr rfl 33 (.tmp 2) (.tmp 12) rfl G 33 Z R rfl rfl HR2.out (by rw [HRl.out]; exact size26) (by rw [HZl.out, HRl.out]) HRo.out ?_)
    refine ret_arr G 33 R (.array 32 5) rfl rfl (Arr.row HR2.out) Tryz.underlying33 rfl (by rw [HRl.out]; exact size26) rfl ⟨by rw [HRR.out], below_setRow HB2.out hGw _⟩
end Go.Proofs.YteockpllnhjooaaGreatDoor

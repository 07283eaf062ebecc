/-
  FnRefRunes.
-/
import Derived.Test.YteockpllnhjooaaGreatDoorQC11
import Derived.Test.YteockpllnhjooaaGreatDoorQC27
import Derived.Test.YteockpllnhjooaaGreatDoorQC06
namespace Go.Proofs.YteockpllnhjooaaGreatDoor
open Go.RowKit NumMath
set_option maxRecDepth 100000
set_option linter.unusedVariables false
set_option linter.unusedSimpArgs false

set_option maxRecDepth 100000 in
set_option maxHeartbeats 2000000 in
theorem refRunes_any (l : List Nat) (w : World) (hb : ∀ c ∈ l, c < 256) (hm : l.length ≤ 17592186044000) :
    Calls Tryz.prog 32 #[.string (strN l)] w fun e w' => ∃ v, e = .returned v ∧ Own w' w.heap.size 3 v (iv (TxtMath.runes l)) ∧ Below w.heap.size w w' := by
  have hsz := strN_size l
  go_enter Tryz.func32, Tryz.ntmps32
  go_wp2
  go_loopw [3, 4] (fun out at_ wr => ∃ (pos : Nat) (acc : List Nat), pos ≤ l.length ∧ at_ = .int .i64 (pos : Int) ∧ Own wr w.heap.size 3 out (iv acc) ∧ Below w.heap.size w wr ∧ acc ++ TxtMath.runes (l.drop pos) = TxtMath.runes l) (fun _ i _ => l.length - (intOf i).toNat)
  case atStart => exact ⟨0, [], by omega, rfl, Own.nil _ _ _, Below.refl _ _, by simp⟩
  case round =>
    obtain ⟨pos, acc, hpl, rfl, hown, hbw, hacc⟩ := hrel
    have hal : acc.length ≤ l.length := by
      have h1 := congrArg List.length hacc
      have h3 := TxtMath.runes_len_le l
      simp at h1; omega
    have HA : Hid _ := hacc
    have HB : Hid _ := hbw
    have HO : Hid _ := hown
    by_cases hp : pos < l.length
    · have HX : Hid _ := next_ref l pos wr hb hp (by omega)
      have hru := TxtMath.runes_at l pos hp
      have hne : l.drop pos ≠ [] := by intro e; have := congrArg List.length e; simp at this; omega
      have hdl := TxtMath.dec_le (l.drop pos) hne
      have hdp := (TxtMath.dec_pos (l.drop pos)).1
      generalize hd : TxtMath.dec (l.drop pos) = d at *
      obtain ⟨r, n⟩ := d
      simp only at HX hru hdl hdp
      have hpn : pos + n ≤ l.length := by simp at hdl; omega
      have HRU : Hid _ := hru
      clear hacc hbw hown hru hne hdl hd
      go_wp2_with fail
      refine Calls.mono HX.out ?_
      rintro e w1 ⟨rfl, rfl⟩
      have hg1 : w.heap.size ≤ w1.heap.size := HB.out.size
      go_wp2_with (at_builtin; refine wpList_app_int rfl _ _ rfl w.heap.size _ (iv acc) (.int .i64 (r : Int)) rfl (HO.out.alloc _) w1.heap.size rfl (by simp) rfl (by rw [iv_len]; omega) (by simp; omega) ?_; intro v' w2 hown2 hgrow2)
      have HO2 : Hid (Own w2 w.heap.size 3 v' (iv (acc ++ [r]))) := by show Own _ _ _ _ _; rw [iv_append]; exact hown2
      have HB2 : Hid (Below w.heap.size w w2) := Own.below (Own.alloc HO.out _) hgrow2 (HB.out.alloc hg1 _) (by simp; omega)
      clear hown2 hgrow2
      go_wp2
      go_roundw
      case rel =>
        refine ⟨pos + n, acc ++ [r], hpn, by simp, HO2.out, HB2.out, ?_⟩
        rw [← HA.out, HRU.out]; simp
      case measure => simp [intOf]; omega
    · clear hacc hbw hown
      have e : pos = l.length := by omega
      go_wp2
      go_ret
      have := HA.out
      rw [TxtMath.runes_end l pos hp] at this
      simp at this
      rw [← this]
      exact ⟨_, rfl, HO.out, HB.out⟩
end Go.Proofs.YteockpllnhjooaaGreatDoor

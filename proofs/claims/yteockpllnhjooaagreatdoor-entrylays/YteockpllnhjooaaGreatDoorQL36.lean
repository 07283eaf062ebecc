/-
  FillK.
-/
import Derived.Test.YteockpllnhjooaaGreatDoorQL07
import Derived.Test.YteockpllnhjooaaGreatDoorQL02
import Derived.Test.YteockpllnhjooaaGreatDoorQL35
import Derived.Lib.BufferWrite
import Derived.Lib.SlBuf
namespace Go.Proofs.YteockpllnhjooaaGreatDoor
open Go.RowKit NumMath
open EntMath (E textB iN bytes0)
set_option maxRecDepth 100000
set_option linter.unusedVariables false
set_option linter.unusedSimpArgs false

def iz (zs : List Int) : List Value := zs.map (Value.int .u8)
theorem iz_len (zs : List Int) : (iz zs).length = zs.length := by simp [iz]
theorem iz_app (a b : List Int) : iz (a ++ b) = iz a ++ iz b := by simp [iz]
theorem iz_one (zs : List Int) : ∀ v ∈ iz zs, v.oneCell' = true := by intro v hv; obtain ⟨x, _, rfl⟩ := List.mem_map.1 hv; rfl
/-- What was laid, and 0 behind it. -/
def fill (pre : List Int) (N : Nat) : List Int := pre ++ List.replicate (N - pre.length) 0
theorem fill_nil (N : Nat) : fill [] N = List.replicate N 0 := by simp [fill]
theorem fill_all (pre : List Int) : fill pre pre.length = pre := by simp [fill]
theorem fill_len (pre : List Int) (N : Nat) (h : pre.length ≤ N) : (fill pre N).length = N := by simp [fill]; omega
theorem fill_step (pre cs : List Int) (N : Nat) (h : pre.length + cs.length ≤ N) : (iz (fill pre N)).take pre.length ++ iz cs ++ (iz (fill pre N)).drop (pre.length + cs.length) = iz (fill (pre ++ cs) N) := by
  unfold fill
  rw [iz_app, iz_app, iz_app]
  have h1 : (iz pre ++ iz (List.replicate (N - pre.length) 0)).take pre.length = iz pre := by rw [← iz_len pre, List.take_left']; rfl
  have h2 : (iz pre ++ iz (List.replicate (N - pre.length) 0)).drop (pre.length + cs.length) = iz (List.replicate (N - (pre ++ cs).length) 0) := by
    rw [List.drop_append, List.drop_of_length_le (by rw [iz_len]; omega), iz_len]
    simp [iz, List.drop_replicate]
    omega
  rw [h1, h2]
theorem Arr.bytes {w : World} {g t : Nat} {zs : List Int} (h : Arr w g t (iz zs)) : Row .u8 w (some ⟨g, 0, none⟩) zs := by
  refine .inr ⟨g, 0, rfl, fun i hi => ?_⟩
  rw [Nat.zero_add, h.cell i]
  simp [iz, hi]

theorem copy_fill {w : World} {GB : Nat} {pre cs : List Int} {N g n sCap : Nat} (hn : n = cs.length) (hA : Arr w GB 5 (iz (fill pre N))) (hs : Row .u8 w (some ⟨g, 0, none⟩) cs) (hl : pre.length + n ≤ N) :
    (Builtin.copy_ #[48, 48] 3 #[.slice (some ⟨GB, pre.length, none⟩) (N - pre.length) (N - pre.length), .slice (some ⟨g, 0, none⟩) n sCap]).run Tryz.prog w = .ok (.int .i64 (n : Int)) (w.setRow GB (iz (fill (pre ++ cs) N)).toArray) := by
  subst hn
  have hrun := run_copy_row (P := Tryz.prog) w 48 48 3 5 GB pre.length (N - pre.length) (N - pre.length) ⟨g, 0, none⟩ cs.length sCap (iz (fill pre N)).toArray 5 (iz cs) Tryz.underlying48 size5 hA (by rw [iz_len]; exact (Nat.min_eq_left (by omega)).symm) ?_ (by simp [iz_len, fill_len pre N (by omega)]; omega) (iz_one cs)
  · rw [hrun]
    have := fill_step pre cs N hl
    rw [iz_len, List.toList_toArray, this]
    rfl
  · intro j v hv
    rcases hs with rfl | ⟨b, off, ha, hc⟩
    · simp [iz] at hv
    · simp only [Option.some.injEq, Addr.mk.injEq, and_true] at ha
      obtain ⟨rfl, rfl⟩ := ha
      have hj : j < cs.length := by have := (List.getElem?_eq_some_iff.1 hv).1; simpa [iz] using this
      rw [Addr.add_mid, hc j hj]
      simp [iz, hj] at hv ⊢
      exact hv
theorem byteCells_strN (l : List Nat) (hb : ∀ c ∈ l, c < 256) : Lib.byteCells (strN l).data.toList = iz (iN l) := by
  unfold Lib.byteCells strN iz iN
  simp only [List.map_map]
  refine List.map_congr_left fun x hx => ?_
  have := hb x hx
  simp
  omega
theorem copy_fill_str {w : World} {GB : Nat} {pre : List Int} {l : List Nat} {N : Nat} (hb : ∀ c ∈ l, c < 256) (hA : Arr w GB 5 (iz (fill pre N))) (hl : pre.length + l.length ≤ N) :
    (Builtin.copy_ #[48, 9] 3 #[.slice (some ⟨GB, pre.length, none⟩) (N - pre.length) (N - pre.length), .string (strN l)]).run Tryz.prog w = .ok (.int .i64 (l.length : Int)) (w.setRow GB (iz (fill (pre ++ iN l) N)).toArray) := by
  have hz := strN_size l
  have hrun := Lib.run_copy_row_string (P := Tryz.prog) w 48 9 3 5 GB pre.length (N - pre.length) (N - pre.length) (strN l) (iz (fill pre N)).toArray 5 Tryz.underlying48 size5 hA (by omega) (by simp [iz_len, fill_len pre N (by omega)]; omega)
  rw [hrun, byteCells_strN l hb, hz]
  have := fill_step pre (iN l) N (by rw [EntMath.iN_len]; exact hl)
  rw [EntMath.iN_len] at this
  rw [List.toList_toArray, this]
  rfl

/-- num.Put of one number behind nothing. -/
theorem putNil_any (v : Int) (w : World) (h0 : 0 ≤ v) (h1 : v ≤ 18446744073709551615) :
    Calls Tryz.prog 36 #[.slice none 0 0, .slice (some ⟨w.heap.size, 0, none⟩) 1 1] (w.alloc (.cells #[.int .u64 v] 69)) fun e w' => ∃ g, e = .returned (.slice (some ⟨g, 0, none⟩) (D v).length (D v).length) ∧ Row .u8 w' (some ⟨g, 0, none⟩) (D v) ∧ Below w.heap.size w w' := by
  have hp := put_own none (some ⟨w.heap.size, 0, none⟩) [] [v] 0 1 (w.alloc (.cells #[.int .u64 v] 69)) (D v) (D v).length (put_one v) rfl (.inl rfl) (by simp) (by decide) (fun _ => rfl) (lit_row w .u64 [v] 69 _ rfl) (by simp; omega) (by simp) (by decide) (by simp)
  refine hp.mono ?_
  rintro e w' ⟨g, rfl, hown, hb⟩
  refine ⟨g, rfl, ?_, ((Below.refl w.heap.size w).alloc (Nat.le_refl _) _).trans (hb.mono (by simp))⟩
  have := own_row hown (D v).length (Nat.le_refl _)
  rw [List.take_length] at this
  exact this
end Go.Proofs.YteockpllnhjooaaGreatDoor

/-
  Walk of newsreelseat.Wild.
-/
import Derived.Test.YtmdpakkldapciaaDoorL5Known
import Derived.Deep.QuietTactic
namespace Go.Proofs.YtmdpakkldapciaaDoor
open Go.RowKit NumMath
set_option maxRecDepth 100000
set_option linter.unusedVariables false
set_option linter.unusedSimpArgs false
def heads5 : List (List Nat) := [[104, 116, 116, 112, 58, 47, 47], [72, 84, 84, 80, 83, 58, 47, 47], [72, 116, 116, 112, 58, 47, 47], [102, 116, 112, 58, 47, 47], [104, 116, 116, 112, 58, 47], [], [104, 116, 116, 112, 115, 58, 47, 47]]
def hosts5 : List (List Nat) := [[97, 46, 98], [65, 46, 66], [110, 101, 119, 115, 46, 69, 120, 97, 109, 112, 108, 101, 58, 52, 52, 51], [97, 46, 98, 58, 56, 48], [120, 45, 49, 46, 121, 58, 54, 53, 53, 51, 53], [45, 97], [97, 46, 46, 98], [97, 46, 98, 58], [97, 46, 98, 58, 48, 48], [99, 58, 54, 53, 53, 51, 54], [49, 46, 50, 46, 51, 46, 52, 58, 56, 48, 56, 48], [97, 95, 98], [], [117, 64, 104]]
def ways5 : List (List Nat) := [[], [47], [47, 120, 47, 46, 46, 47, 121], [47, 46, 47, 97, 47, 47, 98, 47, 46], [47, 37, 55, 101, 37, 50, 70, 37, 99, 51], [47, 195, 188, 63, 113, 61, 195, 164], [63], [63, 97, 63, 98, 47, 46, 46], [35, 122], [47, 97, 32, 98], [47, 37, 52], [47, 46, 46], [47, 120, 47, 37, 50, 101, 37, 50, 69, 47, 121], [47, 255], [47, 97, 47, 47, 46, 46], [47, 40, 97, 41, 33, 59, 98, 61, 99], [47, 113, 63, 91], [47, 60]]
theorem tab_ok (T : List (List Nat)) (h : ∀ a ∈ T, (∀ c ∈ a, c < 256) ∧ a.length ≤ 16) (q : Nat) (hq : q < T.length) : (∀ c ∈ T[q]?.getD [], c < 256) ∧ (T[q]?.getD []).length ≤ 16 := by
  rw [List.getElem?_eq_getElem hq]
  exact h _ (List.getElem_mem hq)

set_option maxRecDepth 100000 in
set_option maxHeartbeats 8000000 in
theorem wild_any (k j : Nat) (w : World) (hk : k < 256) (hj : j < 256) :
    Calls Tryd.prog 11 #[.int .u8 (k : Int), .int .u8 (j : Int)] w fun e w' => (∃ l : List Nat, e = .returned (.string (strN l)) ∧ (∀ c ∈ l, c < 256) ∧ l.length ≤ 48) ∧ Below w.heap.size w w' := by
  obtain ⟨q1, hq1, hq1e⟩ : ∃ q : Nat, (k : Int) % 7 = (q : Int) ∧ q = k % 7 := ⟨k % 7, by omega, rfl⟩
  obtain ⟨d, hd, hde⟩ : ∃ q : Nat, (k : Int) / 7 = (q : Int) ∧ q = k / 7 := ⟨k / 7, by omega, rfl⟩
  obtain ⟨q2, hq2, hq2e⟩ : ∃ q : Nat, (d : Int) % 14 = (q : Int) ∧ q = d % 14 := ⟨d % 14, by omega, rfl⟩
  obtain ⟨q3, hq3, hq3e⟩ : ∃ q : Nat, (j : Int) % 18 = (q : Int) ∧ q = j % 18 := ⟨j % 18, by omega, rfl⟩
  have hq1T : (k : Int).tmod 7 = (q1 : Int) := by rw [Int.tmod_eq_emod_of_nonneg (by omega)]; exact hq1
  have hdT : (k : Int).tdiv 7 = (d : Int) := by rw [Int.tdiv_eq_ediv_of_nonneg (by omega)]; exact hd
  have hq2T : (d : Int).tmod 14 = (q2 : Int) := by rw [Int.tmod_eq_emod_of_nonneg (by omega)]; exact hq2
  have hq3T : (j : Int).tmod 18 = (q3 : Int) := by rw [Int.tmod_eq_emod_of_nonneg (by omega)]; exact hq3
  have h1 : q1 < 7 := by omega
  have h2 : q2 < 14 := by omega
  have h3 : q3 < 18 := by omega
  have hd256 : d < 256 := by omega
  have wq1 : IntKind.u8.wrap (q1 : Int) = (q1 : Int) := by simp [IntKind.wrap, IntKind.bits, IntKind.signed]; omega
  have wd : IntKind.u8.wrap (d : Int) = (d : Int) := by simp [IntKind.wrap, IntKind.bits, IntKind.signed]; omega
  have wq3 : IntKind.u8.wrap (q3 : Int) = (q3 : Int) := by simp [IntKind.wrap, IntKind.bits, IntKind.signed]; omega
  have wq2 : IntKind.i64.wrap (q2 : Int) = (q2 : Int) := by rw [IntKind.wrap_i64]; omega
  have wd64 : IntKind.i64.wrap (d : Int) = (d : Int) := by rw [IntKind.wrap_i64]; omega
  have i1 : (q1 : Int) < 7 := by omega
  have i2 : (q2 : Int) < 14 := by omega
  have i3 : (q3 : Int) < 18 := by omega
  obtain ⟨A, hA⟩ : ∃ A, A = Obj.cells (sv heads5).toArray 9 := ⟨_, rfl⟩
  obtain ⟨B, hB⟩ : ∃ B, B = Obj.cells (sv hosts5).toArray 9 := ⟨_, rfl⟩
  obtain ⟨C, hC⟩ : ∃ C, C = Obj.cells (sv ways5).toArray 9 := ⟨_, rfl⟩
  have c1 : (((w.alloc A).alloc B).alloc C).cell? ⟨w.heap.size, q1, none⟩ = some (.string (strN (heads5[q1]?.getD []))) := by
    have h0 := txt_cell w heads5 q1 h1
    rw [← hA] at h0
    exact cell_later h0 (((Below.refl _ _).alloc (by simp) B).alloc (by simp) C)
  have c2 : (((w.alloc A).alloc B).alloc C).cell? ⟨w.heap.size + 1, q2, none⟩ = some (.string (strN (hosts5[q2]?.getD []))) := by
    have h0 := txt_cell (w.alloc A) hosts5 q2 h2
    rw [← hB] at h0
    have e : (w.alloc A).heap.size = w.heap.size + 1 := by simp
    rw [e] at h0
    exact cell_later h0 ((Below.refl _ _).alloc (by simp) C)
  have c3 : (((w.alloc A).alloc B).alloc C).cell? ⟨w.heap.size + 1 + 1, q3, none⟩ = some (.string (strN (ways5[q3]?.getD []))) := by
    have h0 := txt_cell ((w.alloc A).alloc B) ways5 q3 h3
    rw [← hC] at h0
    have e : ((w.alloc A).alloc B).heap.size = w.heap.size + 1 + 1 := by simp
    rw [e] at h0
    exact h0
  obtain ⟨b1, l1⟩ := tab_ok heads5 (by decide) q1 h1
  obtain ⟨b2, l2⟩ := tab_ok hosts5 (by decide) q2 h2
  obtain ⟨b3, l3⟩ := tab_ok ways5 (by decide) q3 h3
  have HBl : Hid (Below w.heap.size w (((w.alloc A).alloc B).alloc C)) := (((Below.refl _ _).alloc (Nat.le_refl _) A).alloc (by simp) B).alloc (by simp; omega) C
  have hA' : A = Obj.cells #[.string ⟨#[104, 116, 116, 112, 58, 47, 47]⟩, .string ⟨#[72, 84, 84, 80, 83, 58, 47, 47]⟩, .string ⟨#[72, 116, 116, 112, 58, 47, 47]⟩, .string ⟨#[102, 116, 112, 58, 47, 47]⟩, .string ⟨#[104, 116, 116, 112, 58, 47]⟩, .string ⟨#[]⟩, .string ⟨#[104, 116, 116, 112, 115, 58, 47, 47]⟩] 9 := hA
  have hB' : B = Obj.cells #[.string ⟨#[97, 46, 98]⟩, .string ⟨#[65, 46, 66]⟩, .string ⟨#[110, 101, 119, 115, 46, 69, 120, 97, 109, 112, 108, 101, 58, 52, 52, 51]⟩, .string ⟨#[97, 46, 98, 58, 56, 48]⟩, .string ⟨#[120, 45, 49, 46, 121, 58, 54, 53, 53, 51, 53]⟩, .string ⟨#[45, 97]⟩, .string ⟨#[97, 46, 46, 98]⟩, .string ⟨#[97, 46, 98, 58]⟩, .string ⟨#[97, 46, 98, 58, 48, 48]⟩, .string ⟨#[99, 58, 54, 53, 53, 51, 54]⟩, .string ⟨#[49, 46, 50, 46, 51, 46, 52, 58, 56, 48, 56, 48]⟩, .string ⟨#[97, 95, 98]⟩, .string ⟨#[]⟩, .string ⟨#[117, 64, 104]⟩] 9 := hB
  have hC' : C = Obj.cells #[.string ⟨#[]⟩, .string ⟨#[47]⟩, .string ⟨#[47, 120, 47, 46, 46, 47, 121]⟩, .string ⟨#[47, 46, 47, 97, 47, 47, 98, 47, 46]⟩, .string ⟨#[47, 37, 55, 101, 37, 50, 70, 37, 99, 51]⟩, .string ⟨#[47, 195, 188, 63, 113, 61, 195, 164]⟩, .string ⟨#[63]⟩, .string ⟨#[63, 97, 63, 98, 47, 46, 46]⟩, .string ⟨#[35, 122]⟩, .string ⟨#[47, 97, 32, 98]⟩, .string ⟨#[47, 37, 52]⟩, .string ⟨#[47, 46, 46]⟩, .string ⟨#[47, 120, 47, 37, 50, 101, 37, 50, 69, 47, 121]⟩, .string ⟨#[47, 255]⟩, .string ⟨#[47, 97, 47, 47, 46, 46]⟩, .string ⟨#[47, 40, 97, 41, 33, 59, 98, 61, 99]⟩, .string ⟨#[47, 113, 63, 91]⟩, .string ⟨#[47, 60]⟩] 9 := hC
  rw [hA', hB', hC'] at c1 c2 c3 HBl
  clear hA hB hC hA' hB' hC' hq1e hq2e hq3e hde
  generalize heads5[q1]?.getD [] = X1 at *
  generalize hosts5[q2]?.getD [] = X2 at *
  generalize ways5[q3]?.getD [] = X3 at *
  obtain ⟨Y, hY⟩ : ∃ Y, Y = X1 ++ X2 := ⟨_, rfl⟩
  obtain ⟨Z, hZ⟩ : ∃ Z, Z = Y ++ X3 := ⟨_, rfl⟩
  have hc1 : ∀ w, (Op.stringOp BinOp.add (strN X1) (strN X2)).run Tryd.prog w = .ok (.string (strN Y)) w := by rw [hY]; exact sum_strN X1 X2 (by omega)
  have hc2 : ∀ w, (Op.stringOp BinOp.add (strN Y) (strN X3)).run Tryd.prog w = .ok (.string (strN Z)) w := by rw [hZ]; exact sum_strN Y X3 (by rw [hY]; simp; omega)
  have HZ : Hid ((∀ c ∈ Z, c < 256) ∧ Z.length ≤ 48) := by
    refine ⟨?_, ?_⟩
    · rw [hZ, hY]; exact app_lt (app_lt b1 b2) b3
    · rw [hZ, hY]; simp; omega
  clear hY hZ b1 b2 b3
  go_enter Tryd.func11, Tryd.ntmps11
  go_wp2
  generalize ((w.alloc (Obj.cells #[.string ⟨#[104, 116, 116, 112, 58, 47, 47]⟩, .string ⟨#[72, 84, 84, 80, 83, 58, 47, 47]⟩, .string ⟨#[72, 116, 116, 112, 58, 47, 47]⟩, .string ⟨#[102, 116, 112, 58, 47, 47]⟩, .string ⟨#[104, 116, 116, 112, 58, 47]⟩, .string ⟨#[]⟩, .string ⟨#[104, 116, 116, 112, 115, 58, 47, 47]⟩] 9)).alloc (Obj.cells #[.string ⟨#[97, 46, 98]⟩, .string ⟨#[65, 46, 66]⟩, .string ⟨#[110, 101, 119, 115, 46, 69, 120, 97, 109, 112, 108, 101, 58, 52, 52, 51]⟩, .string ⟨#[97, 46, 98, 58, 56, 48]⟩, .string ⟨#[120, 45, 49, 46, 121, 58, 54, 53, 53, 51, 53]⟩, .string ⟨#[45, 97]⟩, .string ⟨#[97, 46, 46, 98]⟩, .string ⟨#[97, 46, 98, 58]⟩, .string ⟨#[97, 46, 98, 58, 48, 48]⟩, .string ⟨#[99, 58, 54, 53, 53, 51, 54]⟩, .string ⟨#[49, 46, 50, 46, 51, 46, 52, 58, 56, 48, 56, 48]⟩, .string ⟨#[97, 95, 98]⟩, .string ⟨#[]⟩, .string ⟨#[117, 64, 104]⟩] 9)).alloc (Obj.cells #[.string ⟨#[]⟩, .string ⟨#[47]⟩, .string ⟨#[47, 120, 47, 46, 46, 47, 121]⟩, .string ⟨#[47, 46, 47, 97, 47, 47, 98, 47, 46]⟩, .string ⟨#[47, 37, 55, 101, 37, 50, 70, 37, 99, 51]⟩, .string ⟨#[47, 195, 188, 63, 113, 61, 195, 164]⟩, .string ⟨#[63]⟩, .string ⟨#[63, 97, 63, 98, 47, 46, 46]⟩, .string ⟨#[35, 122]⟩, .string ⟨#[47, 97, 32, 98]⟩, .string ⟨#[47, 37, 52]⟩, .string ⟨#[47, 46, 46]⟩, .string ⟨#[47, 120, 47, 37, 50, 101, 37, 50, 69, 47, 121]⟩, .string ⟨#[47, 255]⟩, .string ⟨#[47, 97, 47, 47, 46, 46]⟩, .string ⟨#[47, 40, 97, 41, 33, 59, 98, 61, 99]⟩, .string ⟨#[47, 113, 63, 91]⟩, .string ⟨#[47, 60]⟩] 9) = w3 at *
  go_quiet (fail)
  go_wp2
  go_ret
  exact ⟨⟨Z, rfl, HZ.out.1, HZ.out.2⟩, Below.drewN HBl.out _⟩
end Go.Proofs.YtmdpakkldapciaaDoor

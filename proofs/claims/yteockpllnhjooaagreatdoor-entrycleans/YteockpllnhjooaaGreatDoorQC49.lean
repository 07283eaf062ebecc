/-
  EntRow.
-/
import Derived.Test.YteockpllnhjooaaGreatDoorQC08
import Derived.Test.YteockpllnhjooaaGreatDoorQC39
import Derived.Test.YteockpllnhjooaaGreatDoorQC47
import Derived.Test.YteockpllnhjooaaGreatDoorQC36
import Derived.Test.YteockpllnhjooaaGreatDoorQC48
namespace Go.Proofs.YteockpllnhjooaaGreatDoor
open Go.RowKit NumMath
open EntMath (E)
set_option maxRecDepth 100000
set_option linter.unusedVariables false
set_option linter.unusedSimpArgs false

def flatE (L : List E) : List Value := L.flatMap entL
theorem flatE_at (L : List E) (i j : Nat) (hi : i < L.length) (hj : j < 6) : (flatE L)[i * 6 + j]? = (entL (L[i]?.getD EntMath.zero))[j]? := by
  unfold flatE
  induction L generalizing i with
  | nil => simp at hi
  | cons x L ih =>
    rw [List.flatMap_cons]
    cases i with
    | zero =>
      rw [List.getElem?_append_left (by rw [entL_len]; omega)]
      simp
    | succ i =>
      rw [List.getElem?_append_right (by rw [entL_len]; omega), entL_len, show (i + 1) * 6 + j - 6 = i * 6 + j by omega, ih i (by simpa using hi)]
      simp
theorem row_cells {w : World} {g t : Nat} {L : List E} (h : Arr w g t (flatE L)) (i : Nat) (hi : i < L.length) :
    w.cell? ⟨g, i * 6, none⟩ = some (.string (strN (L[i]?.getD EntMath.zero).feed)) ∧ w.cell? ⟨g, i * 6 + 1, none⟩ = some (.string (strN (L[i]?.getD EntMath.zero).guid)) ∧ w.cell? ⟨g, i * 6 + 2, none⟩ = some (.string (strN (L[i]?.getD EntMath.zero).title)) ∧
    w.cell? ⟨g, i * 6 + 3, none⟩ = some (.string (strN (L[i]?.getD EntMath.zero).link)) ∧ w.cell? ⟨g, i * 6 + 4, none⟩ = some (.string (strN (L[i]?.getD EntMath.zero).body)) ∧ w.cell? ⟨g, i * 6 + 5, none⟩ = some (.int .i64 (L[i]?.getD EntMath.zero).time) := by
  have k : ∀ j, j < 6 → w.cell? ⟨g, i * 6 + j, none⟩ = (entL (L[i]?.getD EntMath.zero))[j]? := fun j hj => by rw [Arr.cell h, flatE_at L i j hi hj]
  exact ⟨k 0 (by omega), k 1 (by omega), k 2 (by omega), k 3 (by omega), k 4 (by omega), k 5 (by omega)⟩
/-- Where two entries part. -/
theorem ent_cases (a b : E) (ha : EFit a) (hb : EFit b) :
    a = b ∨ (¬ a = b ∧ (((strN a.feed).toList == (strN b.feed).toList) = false ∨
      (((strN a.feed).toList == (strN b.feed).toList) = true ∧ ((strN a.guid).toList == (strN b.guid).toList) = false) ∨
      (((strN a.feed).toList == (strN b.feed).toList) = true ∧ ((strN a.guid).toList == (strN b.guid).toList) = true ∧ ((strN a.title).toList == (strN b.title).toList) = false) ∨
      (((strN a.feed).toList == (strN b.feed).toList) = true ∧ ((strN a.guid).toList == (strN b.guid).toList) = true ∧ ((strN a.title).toList == (strN b.title).toList) = true ∧ ((strN a.link).toList == (strN b.link).toList) = false) ∨
      (((strN a.feed).toList == (strN b.feed).toList) = true ∧ ((strN a.guid).toList == (strN b.guid).toList) = true ∧ ((strN a.title).toList == (strN b.title).toList) = true ∧ ((strN a.link).toList == (strN b.link).toList) = true ∧ ((strN a.body).toList == (strN b.body).toList) = false) ∨
      (((strN a.feed).toList == (strN b.feed).toList) = true ∧ ((strN a.guid).toList == (strN b.guid).toList) = true ∧ ((strN a.title).toList == (strN b.title).toList) = true ∧ ((strN a.link).toList == (strN b.link).toList) = true ∧ ((strN a.body).toList == (strN b.body).toList) = true ∧ (a.time == b.time) = false))) := by
  rw [strN_eq ha.f1 hb.f1, strN_eq ha.f2 hb.f2, strN_eq ha.f3 hb.f3, strN_eq ha.f4 hb.f4, strN_eq ha.f5 hb.f5]
  have e : a = b ↔ (a.feed = b.feed ∧ a.guid = b.guid ∧ a.title = b.title ∧ a.link = b.link ∧ a.body = b.body ∧ a.time = b.time) := ent_eq_iff
  by_cases h1 : a.feed = b.feed <;> by_cases h2 : a.guid = b.guid <;> by_cases h3 : a.title = b.title <;> by_cases h4 : a.link = b.link <;> by_cases h5 : a.body = b.body <;> by_cases h6 : a.time = b.time <;> simp [e, h1, h2, h3, h4, h5, h6]
theorem bytesLater {w w' : World} {v : Value} {ys : List Int} (h : Bytes w v ys) (hb : Below w.heap.size w w') : Bytes w' v ys := by
  obtain ⟨a, c, hv, hr, r⟩ := h
  exact ⟨a, c, hv, hr.later hb, r⟩
theorem bytesDrew {w : World} {v : Value} {ys : List Int} (h : Bytes w v ys) : Bytes w.drew v ys := by
  obtain ⟨a, c, hv, hr, r⟩ := h
  exact ⟨a, c, hv, hr.drew, r⟩
theorem bytesString {w : World} {v : Value} {ys : List Int} (h : Bytes w v ys) : (convert 48 9 v).run Tryz.prog w = .ok (.string (strOfNums ys)) w := by
  obtain ⟨a, c, rfl, hr, _⟩ := h
  exact row_string hr
theorem small_efit {e : E} (h : InFit e) (hs : smallE e = true) : EFit e := by
  obtain ⟨l1, l2, l3, l4, l5⟩ := smallEnt_fit hs
  exact ⟨h.f1, h.f2, h.f3, h.f4, h.f5, by omega, by omega, by omega, by omega, by omega, h.t0, h.t1⟩
/-- Entries whose bytes are alike have one id. -/
theorem idN_of_bytes {a b : E} (h : EntMath.bytes a = EntMath.bytes b) : idN a = idN b := by
  unfold idN
  cases ha : EntMath.right a
  · have h1 := (EntMath.bytes_nil a).2 ha
    rw [h] at h1
    rw [(EntMath.bytes_nil b).1 h1]
    rfl
  · have hab := EntMath.bytes_inj ha h
    rw [← hab, ha]
end Go.Proofs.YteockpllnhjooaaGreatDoor

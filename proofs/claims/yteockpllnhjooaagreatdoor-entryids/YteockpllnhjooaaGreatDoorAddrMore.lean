/-
  More plain mathematics of addresses: labels rune by rune, a port's number, the site.
-/
import Derived.Test.YteockpllnhjooaaGreatDoorAddrForm
namespace AddrMath
set_option linter.unusedVariables false
set_option linter.unusedSimpArgs false
open TxtMath (dec enc byteAt contAt valid)

theorem prefix1 (c : Nat) (l : List Nat) : [c].isPrefixOf l = (l.head? == some c) := by
  cases l with
  | nil => rfl
  | cons x t =>
    show (c == x && true) = (some x == some c)
    rw [Bool.and_true]
    by_cases h : c = x
    · subst h; simp
    · rw [beq_eq_false_iff_ne.2 h, beq_eq_false_iff_ne.2 (fun e => h (Option.some.inj e).symm)]
theorem suffix1 (c : Nat) (l : List Nat) : [c].isSuffixOf l = (l.getLast? == some c) := by
  unfold List.isSuffixOf
  have := prefix1 c l.reverse
  rw [List.head?_reverse] at this
  exact this
theorem isLab_parts (l : List Nat) : isLab l = (decide (1 ≤ l.length) && decide (l.length ≤ 63) && !([45].isPrefixOf l) && !([45].isSuffixOf l) && l.all labC) := by
  unfold isLab
  rw [prefix1, suffix1]
  simp only [bne]
  generalize l.all labC = a
  generalize decide (1 ≤ l.length) = b
  generalize decide (l.length ≤ 63) = c
  generalize (l.head? == some 45) = d
  generalize (l.getLast? == some 45) = e
  cases a <;> cases b <;> cases c <;> cases d <;> cases e <;> rfl
theorem byteAt_drop {l : List Nat} {k c : Nat} (h : l[k]? = some c) : byteAt (l.drop k) 0 = c := by simp [byteAt, h]
theorem dec_ascii {l : List Nat} {k c : Nat} (h : l[k]? = some c) (hc : c < 128) : dec (l.drop k) = (c, 1) := by
  have hb := byteAt_drop h
  unfold dec
  rw [hb, if_pos hc]
theorem dec_big {l : List Nat} {k c : Nat} (h : l[k]? = some c) (hc : 128 ≤ c) : 128 ≤ (dec (l.drop k)).1 := TxtMath.dec_ge _ (by rw [byteAt_drop h]; exact hc)
theorem all_take_succ {p : Nat → Bool} {l : List Nat} {k c : Nat} (h : l[k]? = some c) (ha : (l.take k).all p = true) (hc : p c = true) : (l.take (k + 1)).all p = true := by
  obtain ⟨hk, rfl⟩ := List.getElem?_eq_some_iff.1 h
  rw [List.take_succ_eq_append_getElem hk, List.all_append, ha]
  simp [hc]
theorem all_false {p : Nat → Bool} {l : List Nat} {k c : Nat} (h : l[k]? = some c) (hc : p c = false) : l.all p = false := by
  apply Bool.eq_false_iff.2
  intro ha
  have := List.all_eq_true.1 ha c (List.mem_of_getElem? h)
  rw [hc] at this; cases this
/- a port's number -/
theorem value_append (l : List Nat) (c : Nat) : value (l ++ [c]) = value l * 10 + (c - 48) := by simp [value]
theorem value_take {l : List Nat} {k c : Nat} (h : l[k]? = some c) : value (l.take (k + 1)) = value (l.take k) * 10 + (c - 48) := by
  obtain ⟨hk, rfl⟩ := List.getElem?_eq_some_iff.1 h
  rw [List.take_succ_eq_append_getElem hk, value_append]
theorem isPort_parts (l : List Nat) : isPort l = (decide (1 ≤ l.length) && decide (l.length ≤ 5) && !([48].isPrefixOf l) && l.all digit && decide (value l ≤ 65535)) := by
  unfold isPort
  rw [prefix1]; rfl
theorem digit_iff (c : Nat) : digit c = true ↔ 48 ≤ c ∧ c ≤ 57 := by simp [digit]
theorem port_head {a : Nat} {t : List Nat} (h : isPort (a :: t) = true) : a ≠ 48 ∧ (a :: t).length ≤ 5 := by
  rw [isPort_parts] at h
  simp [List.isPrefixOf] at h
  exact ⟨fun e => h.1.1.2 e.symm, by simp; omega⟩
theorem port_80 {l : List Nat} (h : isPort l = true) (ev : value l = 80) : l = [56, 48] := by
  have hd := port_chars h
  match l, h, hd, ev with
  | [], h, _, _ => cases h
  | [a], h, hd, ev =>
    have h0 := (port_head h).1
    have ka := (digit_iff a).1 (hd a (by simp))
    simp only [value, List.foldl] at ev
    exfalso; omega
  | [a, b], h, hd, ev =>
    have h0 := (port_head h).1
    have ka := (digit_iff a).1 (hd a (by simp))
    have kb := (digit_iff b).1 (hd b (by simp))
    simp only [value, List.foldl] at ev
    have ea : a = 56 := by omega
    have eb : b = 48 := by omega
    rw [ea, eb]
  | [a, b, c], h, hd, ev =>
    have h0 := (port_head h).1
    have ka := (digit_iff a).1 (hd a (by simp))
    have kb := (digit_iff b).1 (hd b (by simp))
    have kc := (digit_iff c).1 (hd c (by simp))
    simp only [value, List.foldl] at ev
    exfalso; omega
  | [a, b, c, d], h, hd, ev =>
    have h0 := (port_head h).1
    have ka := (digit_iff a).1 (hd a (by simp))
    have kb := (digit_iff b).1 (hd b (by simp))
    have kc := (digit_iff c).1 (hd c (by simp))
    have kd := (digit_iff d).1 (hd d (by simp))
    simp only [value, List.foldl] at ev
    exfalso; omega
  | [a, b, c, d, e], h, hd, ev =>
    have h0 := (port_head h).1
    have ka := (digit_iff a).1 (hd a (by simp))
    have kb := (digit_iff b).1 (hd b (by simp))
    have kc := (digit_iff c).1 (hd c (by simp))
    have kd := (digit_iff d).1 (hd d (by simp))
    have ke := (digit_iff e).1 (hd e (by simp))
    simp only [value, List.foldl] at ev
    exfalso; omega
  | a :: b :: c :: d :: f :: g :: t, h, _, _ => have := (port_head h).2; simp at this
theorem port_443 {l : List Nat} (h : isPort l = true) (ev : value l = 443) : l = [52, 52, 51] := by
  have hd := port_chars h
  match l, h, hd, ev with
  | [], h, _, _ => cases h
  | [a], h, hd, ev =>
    have h0 := (port_head h).1
    have ka := (digit_iff a).1 (hd a (by simp))
    simp only [value, List.foldl] at ev
    exfalso; omega
  | [a, b], h, hd, ev =>
    have h0 := (port_head h).1
    have ka := (digit_iff a).1 (hd a (by simp))
    have kb := (digit_iff b).1 (hd b (by simp))
    simp only [value, List.foldl] at ev
    exfalso; omega
  | [a, b, c], h, hd, ev =>
    have h0 := (port_head h).1
    have ka := (digit_iff a).1 (hd a (by simp))
    have kb := (digit_iff b).1 (hd b (by simp))
    have kc := (digit_iff c).1 (hd c (by simp))
    simp only [value, List.foldl] at ev
    have ea : a = 52 := by omega
    have eb : b = 52 := by omega
    have ec : c = 51 := by omega
    rw [ea, eb, ec]
  | [a, b, c, d], h, hd, ev =>
    have h0 := (port_head h).1
    have ka := (digit_iff a).1 (hd a (by simp))
    have kb := (digit_iff b).1 (hd b (by simp))
    have kc := (digit_iff c).1 (hd c (by simp))
    have kd := (digit_iff d).1 (hd d (by simp))
    simp only [value, List.foldl] at ev
    exfalso; omega
  | [a, b, c, d, e], h, hd, ev =>
    have h0 := (port_head h).1
    have ka := (digit_iff a).1 (hd a (by simp))
    have kb := (digit_iff b).1 (hd b (by simp))
    have kc := (digit_iff c).1 (hd c (by simp))
    have kd := (digit_iff d).1 (hd d (by simp))
    have ke := (digit_iff e).1 (hd e (by simp))
    simp only [value, List.foldl] at ev
    exfalso; omega
  | a :: b :: c :: d :: f :: g :: t, h, _, _ => have := (port_head h).2; simp at this
/-- A port that is told as so many digits: which number. -/
theorem port_usual {l : List Nat} (h : isPort l = true) : (l = [56, 48] ↔ value l = 80) ∧ (l = [52, 52, 51] ↔ value l = 443) :=
  ⟨⟨fun e => by rw [e]; rfl, port_80 h⟩, ⟨fun e => by rw [e]; rfl, port_443 h⟩⟩
/- the site -/
def siteOk (site : List Nat) : Bool := isHost (lower (pre (is 58) site)) && ((post (is 58) site).isEmpty || isPort (post (is 58) site).tail)
def siteF (sch site : List Nat) : List Nat := lower (pre (is 58) site) ++ (if post (is 58) site = [] ∨ (post (is 58) site).tail = usual sch then [] else post (is 58) site)
theorem combine_site (sch site pa qu : List Nat) : combine sch (pre (is 58) site) (post (is 58) site) pa qu = if siteOk site then
    match way true pa.tail, way true qu.tail with
    | some p, some y => some (sch ++ (colon ++ (siteF sch site ++ (dots p ++ (if qu = [] then [] else 63 :: y)))))
    | _, _ => none
  else none := by
  unfold combine siteOk siteF
  split
  · cases way true pa.tail with
    | none => rfl
    | some p => cases way true qu.tail with
      | none => rfl
      | some y => simp only [List.append_assoc]
  · rfl
theorem usual_lt (sch : List Nat) : ∀ c ∈ usual sch, c < 256 := by
  unfold usual; split <;> decide
end AddrMath

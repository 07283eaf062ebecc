/-
  Laws of addresses: runes of more bytes; the parts of an address; what the program and the document reckon is the same; a form is its own form.
-/
import Derived.Test.YteockpllnhjooaaGreatDoorAddrMath
namespace TxtMath
set_option linter.unusedVariables false
set_option linter.unusedSimpArgs false
theorem take2 (l : List Nat) (h : 1 < l.length) : l.take 2 = [byteAt l 0, byteAt l 1] := by
  match l, h with
  | [_], h => simp at h
  | a :: b :: t, _ => simp [byteAt]
theorem take3 (l : List Nat) (h : 2 < l.length) : l.take 3 = [byteAt l 0, byteAt l 1, byteAt l 2] := by
  match l, h with
  | [_], h => simp at h
  | [_, _], h => simp at h
  | a :: b :: c :: t, _ => simp [byteAt]
theorem take4 (l : List Nat) (h : 3 < l.length) : l.take 4 = [byteAt l 0, byteAt l 1, byteAt l 2, byteAt l 3] := by
  match l, h with
  | [_], h => simp at h
  | [_, _], h => simp at h
  | [_, _, _], h => simp at h
  | a :: b :: c :: d :: t, _ => simp [byteAt]
/-- A rune of more than one byte is written by just these. -/
theorem dec_multi (l : List Nat) (h : (dec l).2 ≠ 1) : l.take (dec l).2 = enc (dec l).1 ∧ 128 ≤ (dec l).1 := by
  unfold dec at h ⊢
  split
  · rename_i h0; rw [if_pos h0] at h; exact absurd rfl h
  · rename_i h0
    rw [if_neg h0] at h
    split
    · rename_i h1
      rw [if_pos h1] at h
      split
      · rename_i h2
        simp [contAt] at h1
        refine ⟨?_, by simpa using h2⟩
        rw [take2 l h1.2.1]
        unfold enc
        rw [if_neg (by omega), if_pos (by omega)]
        congr 1
        · omega
        · congr 1; omega
      · rename_i h2; rw [if_neg h2] at h; exact absurd rfl h
    · rename_i h1
      rw [if_neg h1] at h
      split
      · rename_i h2
        rw [if_pos h2] at h
        split
        · rename_i h3
          simp [contAt] at h2
          have h4 : (byteAt l 0 % 16) * 4096 + (byteAt l 1 % 64) * 64 + byteAt l 2 % 64 ≥ 2048 := by simp at h3; exact h3.1
          refine ⟨?_, by simp; omega⟩
          rw [take3 l h2.2.1]
          unfold enc
          rw [if_neg (by omega), if_neg (by omega), if_pos (by omega)]
          congr 1
          · omega
          · congr 1
            · omega
            · congr 1; omega
        · rename_i h3; rw [if_neg h3] at h; exact absurd rfl h
      · rename_i h2
        rw [if_neg h2] at h
        split
        · rename_i h3
          rw [if_pos h3] at h
          split
          · rename_i h5
            simp [contAt] at h3
            have h4 : (byteAt l 0 % 8) * 262144 + (byteAt l 1 % 64) * 4096 + (byteAt l 2 % 64) * 64 + byteAt l 3 % 64 ≥ 65536 := by simp at h5; exact h5.1
            refine ⟨?_, by simp; omega⟩
            rw [take4 l h3.2.1]
            unfold enc
            rw [if_neg (by omega), if_neg (by omega), if_neg (by omega)]
            congr 1
            · omega
            · congr 1
              · omega
              · congr 1
                · omega
                · congr 1; omega
          · rename_i h5; rw [if_neg h5] at h; exact absurd rfl h
        · rename_i h3; rw [if_neg h3] at h; exact absurd rfl h
theorem dec_one (l : List Nat) (h : (dec l).2 = 1) (hb : 128 ≤ byteAt l 0) : (dec l).1 = 65533 := by
  unfold dec at h ⊢
  rw [if_neg (by omega)] at h ⊢
  repeat' split
  all_goals simp_all
theorem dec_ge (l : List Nat) (hb : 128 ≤ byteAt l 0) : 128 ≤ (dec l).1 := by
  by_cases h : (dec l).2 = 1
  · rw [dec_one l h hb]; omega
  · exact (dec_multi l h).2
theorem enc_ge (r : Nat) (h : 128 ≤ r) (h2 : r ≤ 1114111) : ∀ c ∈ enc r, 128 ≤ c ∧ c < 256 := by
  unfold enc; rw [if_neg (by omega)]
  intro c hc
  repeat' split at hc
  all_goals simp at hc; omega
end TxtMath
namespace AddrMath
set_option linter.unusedVariables false
set_option linter.unusedSimpArgs false
open TxtMath (dec enc byteAt contAt valid)

/- letters -/
theorem small_low {c x : Nat} (hc : c < 65 ∨ 90 < c ∧ c < 97 ∨ 122 < c) (h : small x = c) : x = c := by
  unfold small at h; split at h <;> omega
theorem small_lt {x : Nat} (h : x < 256) : small x < 256 := by unfold small; split <;> omega
theorem lower_lt {l : List Nat} (h : ∀ c ∈ l, c < 256) : ∀ c ∈ lower l, c < 256 := by
  intro c hc
  obtain ⟨x, hx, rfl⟩ := List.mem_map.1 hc
  exact small_lt (h x hx)
theorem lower_app (a b : List Nat) : lower (a ++ b) = lower a ++ lower b := by simp [lower]
theorem lower_len (a : List Nat) : (lower a).length = a.length := by simp [lower]
theorem lower_no {c : Nat} (hc : c < 65) {l : List Nat} (h : No (is c) (lower l)) : No (is c) l := by
  intro x hx
  have := h (small x) (List.mem_map.2 ⟨x, hx, rfl⟩)
  simp [is] at this ⊢
  intro e
  apply this
  rw [e]; unfold small; rw [if_neg (by omega)]
theorem no_lower {c : Nat} (hc : c < 65) {l : List Nat} (h : No (is c) l) : No (is c) (lower l) := by
  intro x hx
  obtain ⟨y, hy, rfl⟩ := List.mem_map.1 hx
  have := h y hy
  simp [is] at this ⊢
  intro e
  exact this (small_low (.inl hc) e)
theorem small_small (x : Nat) : small (small x) = small x := by
  unfold small
  by_cases h : 65 ≤ x ∧ x ≤ 90
  · rw [if_pos h, if_neg (by omega)]
  · rw [if_neg h, if_neg h]
theorem lower_lower (l : List Nat) : lower (lower l) = lower l := by simp [lower, small_small]
theorem lower_eq {l : List Nat} (h : ∀ x ∈ l, ¬ (65 ≤ x ∧ x ≤ 90)) : lower l = l := by
  unfold lower
  exact (List.map_congr_left (fun x hx => by unfold small; rw [if_neg (h x hx)]; rfl)).trans (List.map_id _)
def Sch (sch : List Nat) : Prop := sch = http ∨ sch = https
theorem Sch.no {u sch : List Nat} (h : lower u = sch) (hs : Sch sch) {c : Nat} (hc : c < 65) : No (is c) u := by
  apply lower_no hc
  rw [h]
  rcases hs with rfl | rfl
  · intro x hx; simp [http] at hx; simp [is]; omega
  · intro x hx; simp [https] at hx; simp [is]; omega
theorem Sch.lower {sch : List Nat} (hs : Sch sch) : lower sch = sch := by rcases hs with rfl | rfl <;> decide

/-- The scheme of what begins with one. -/
theorem schemeOf_hit {u sch : List Nat} (t : List Nat) (h : lower u = sch) (hs : Sch sch) : schemeOf (u ++ (colon ++ t)) = some (sch, t) := by
  have hn : No (is 58) u := Sch.no h hs (by decide)
  have e : u ++ (colon ++ t) = u ++ 58 :: (47 :: 47 :: t) := rfl
  unfold schemeOf
  rw [e, pre_hit (by rfl) _ hn, post_hit (by rfl) _ hn, h, if_pos ⟨hs, rfl⟩]
  rfl
theorem schemeOf_some {s sch t : List Nat} (h : schemeOf s = some (sch, t)) : ∃ u, s = u ++ (colon ++ t) ∧ lower u = sch ∧ Sch sch := by
  unfold schemeOf at h
  split at h
  · rename_i hc
    simp only [Option.some.injEq, Prod.mk.injEq] at h
    refine ⟨pre (is 58) s, ?_, h.1, ?_⟩
    · have e := pre_post (is 58) s
      have e2 := List.take_append_drop 3 (post (is 58) s)
      rw [hc.2, h.2] at e2
      rw [e2, e]
    · rw [← h.1]; exact hc.1
  · cases h

/- the parts -/
theorem No.mono {p q : Nat → Bool} {l : List Nat} (h : No p l) (hq : ∀ x, p x = false → q x = false) : No q l := fun x hx => hq x (h x hx)
structure Parts5 (h po pa qu fr : List Nat) : Prop where
  h58 : No (is 58) h
  h47 : No (is 47) h
  h63 : No (is 63) h
  h35 : No (is 35) h
  po0 : Ends (is 58) po
  po47 : No (is 47) po
  po63 : No (is 63) po
  po35 : No (is 35) po
  pa0 : Ends (is 47) pa
  pa63 : No (is 63) pa
  pa35 : No (is 35) pa
  qu0 : Ends (is 63) qu
  qu35 : No (is 35) qu
  fr0 : Ends (is 35) fr
theorem sub_no {p : Nat → Bool} {l m : List Nat} (h : No p l) (hs : ∀ x ∈ m, x ∈ l) : No p m := fun x hx => h x (hs x hx)
/-- Every text has its parts. -/
theorem parts_of (t : List Nat) : ∃ h po pa qu fr, t = h ++ (po ++ (pa ++ (qu ++ fr))) ∧ Parts5 h po pa qu fr := by
  have e1 := pre_post (is 35) t
  have e2 := pre_post (is 63) (pre (is 35) t)
  have e3 := pre_post (is 47) (pre (is 63) (pre (is 35) t))
  have e4 := pre_post (is 58) (pre (is 47) (pre (is 63) (pre (is 35) t)))
  have n1 := pre_no (is 35) t
  have n2 := pre_no (is 63) (pre (is 35) t)
  have n3 := pre_no (is 47) (pre (is 63) (pre (is 35) t))
  have n4 := pre_no (is 58) (pre (is 47) (pre (is 63) (pre (is 35) t)))
  refine ⟨pre (is 58) (pre (is 47) (pre (is 63) (pre (is 35) t))), post (is 58) (pre (is 47) (pre (is 63) (pre (is 35) t))), post (is 47) (pre (is 63) (pre (is 35) t)), post (is 63) (pre (is 35) t), post (is 35) t, ?_, ?_⟩
  · rw [← List.append_assoc, e4, ← List.append_assoc, e3, ← List.append_assoc, e2, e1]
  · have m1 : No (is 35) (pre (is 63) (pre (is 35) t)) := sub_no n1 (fun x hx => pre_mem hx)
    have m2 : No (is 35) (pre (is 47) (pre (is 63) (pre (is 35) t))) := sub_no m1 (fun x hx => pre_mem hx)
    have m3 : No (is 63) (pre (is 47) (pre (is 63) (pre (is 35) t))) := sub_no n2 (fun x hx => pre_mem hx)
    exact ⟨n4, sub_no n3 (fun x hx => pre_mem hx), sub_no m3 (fun x hx => pre_mem hx), sub_no m2 (fun x hx => pre_mem hx), post_is _ _, sub_no n3 (fun x hx => post_mem hx), sub_no m3 (fun x hx => post_mem hx), sub_no m2 (fun x hx => post_mem hx), post_is _ _, sub_no n2 (fun x hx => post_mem hx), sub_no m1 (fun x hx => post_mem hx), post_is _ _, sub_no n1 (fun x hx => post_mem hx), post_is _ _⟩
theorem Parts5.all35 {h po pa qu fr : List Nat} (P : Parts5 h po pa qu fr) : No (is 35) (h ++ (po ++ (pa ++ qu))) := P.h35.app (P.po35.app (P.pa35.app P.qu35))
theorem Parts5.e35 {h po pa qu fr : List Nat} (P : Parts5 h po pa qu fr) : pre (is 35) (h ++ (po ++ (pa ++ (qu ++ fr)))) = h ++ (po ++ (pa ++ qu)) := by
  have e : h ++ (po ++ (pa ++ (qu ++ fr))) = (h ++ (po ++ (pa ++ qu))) ++ fr := by simp
  rw [e, pre_ends P.all35 P.fr0]
theorem Parts5.all63 {h po pa qu fr : List Nat} (P : Parts5 h po pa qu fr) : No (is 63) (h ++ (po ++ pa)) := P.h63.app (P.po63.app P.pa63)
theorem Parts5.e63 {h po pa qu fr : List Nat} (P : Parts5 h po pa qu fr) : pre (is 63) (h ++ (po ++ (pa ++ qu))) = h ++ (po ++ pa) ∧ post (is 63) (h ++ (po ++ (pa ++ qu))) = qu := by
  have e : h ++ (po ++ (pa ++ qu)) = (h ++ (po ++ pa)) ++ qu := by simp
  rw [e]; exact ⟨pre_ends P.all63 P.qu0, post_ends P.all63 P.qu0⟩
theorem Parts5.e47 {h po pa qu fr : List Nat} (P : Parts5 h po pa qu fr) : pre (is 47) (h ++ (po ++ pa)) = h ++ po ∧ post (is 47) (h ++ (po ++ pa)) = pa := by
  have e : h ++ (po ++ pa) = (h ++ po) ++ pa := by simp
  rw [e]; exact ⟨pre_ends (P.h47.app P.po47) P.pa0, post_ends (P.h47.app P.po47) P.pa0⟩
theorem Parts5.e58 {h po pa qu fr : List Nat} (P : Parts5 h po pa qu fr) : pre (is 58) (h ++ po) = h ∧ post (is 58) (h ++ po) = po := ⟨pre_ends P.h58 P.po0, post_ends P.h58 P.po0⟩
theorem parseT_parts {h po pa qu fr : List Nat} (P : Parts5 h po pa qu fr) (sch : List Nat) : parseT sch (h ++ (po ++ (pa ++ (qu ++ fr)))) = combine sch h po pa qu := by
  unfold parseT
  rw [P.e35, P.e63.1, P.e63.2, P.e47.1, P.e47.2, P.e58.1, P.e58.2]
theorem parse_parts {u sch h po pa qu fr : List Nat} (hu : lower u = sch) (hs : Sch sch) (P : Parts5 h po pa qu fr) : parse (u ++ (colon ++ (h ++ (po ++ (pa ++ (qu ++ fr)))))) = finish (combine sch h po pa qu) := by
  unfold parse
  rw [schemeOf_hit _ hu hs]
  show finish (parseT sch _) = _
  rw [parseT_parts P]
theorem parse_none {s : List Nat} (h : schemeOf s = none) : parse s = ([], 25) := by unfold parse; rw [h]; rfl

/- what the program reckons -/
/-- Cut at the first "://". -/
def cut3 : List Nat → Option (List Nat × List Nat)
  | [] => none
  | x :: t => if colon.isPrefixOf (x :: t) then some ([], (x :: t).drop 3) else (cut3 t).map (fun y => (x :: y.1, y.2))
theorem cut3_cons (x : Nat) (t : List Nat) : cut3 (x :: t) = if colon.isPrefixOf (x :: t) then some ([], (x :: t).drop 3) else (cut3 t).map (fun y => (x :: y.1, y.2)) := rfl
theorem cut3_some : ∀ {s a b : List Nat}, cut3 s = some (a, b) → s = a ++ (colon ++ b)
  | [], a, b, h => by cases h
  | x :: t, a, b, h => by
    unfold cut3 at h
    split at h
    · rename_i hp
      simp only [Option.some.injEq, Prod.mk.injEq] at h
      obtain ⟨rfl, rfl⟩ := h
      obtain ⟨r, hr⟩ := List.isPrefixOf_iff_prefix.1 hp
      rw [← hr]; rfl
    · cases hc : cut3 t with
      | none => rw [hc] at h; cases h
      | some y =>
        rw [hc] at h
        simp only [Option.map_some, Option.some.injEq, Prod.mk.injEq] at h
        obtain ⟨rfl, rfl⟩ := h
        have := cut3_some (s := t) (a := y.1) (b := y.2) hc
        rw [List.cons_append, ← this]
theorem cut3_hit (t : List Nat) : ∀ {u : List Nat}, No (is 58) u → cut3 (u ++ (colon ++ t)) = some (u, t)
  | [], _ => by
    show cut3 (58 :: 47 :: 47 :: t) = _
    unfold cut3
    rw [if_pos (by simp [colon, List.isPrefixOf])]
    rfl
  | x :: u, h => by
    have hx : x ≠ 58 := by have := h.head; simpa [is] using this
    show cut3 (x :: (u ++ (colon ++ t))) = _
    unfold cut3
    rw [if_neg (by simp [colon, List.isPrefixOf]; intro e; exact absurd e.symm hx), cut3_hit t h.tail]
    rfl
/-- What the program does, in its order. -/
def parseP (s : List Nat) : List Nat × Nat :=
  match cut3 (pre (is 63) (pre (is 35) s)) with
  | none => ([], 25)
  | some (u, r) => if lower u = http ∨ lower u = https then finish (combine (lower u) (pre (is 58) (pre (is 47) r)) (post (is 58) (pre (is 47) r)) (post (is 47) r) (post (is 63) (pre (is 35) s))) else ([], 25)
theorem parseP_is (s : List Nat) : parseP s = parse s := by
  unfold parseP
  cases hc : cut3 (pre (is 63) (pre (is 35) s)) with
  | none =>
    show _ = parse s
    cases hs : schemeOf s with
    | none => rw [parse_none hs]
    | some y =>
      obtain ⟨sch, t⟩ := y
      obtain ⟨u, rfl, hu, hS⟩ := schemeOf_some hs
      exfalso
      obtain ⟨h, po, pa, qu, fr, rfl, P⟩ := parts_of t
      have e : u ++ (colon ++ (h ++ (po ++ (pa ++ (qu ++ fr))))) = (u ++ (colon ++ (h ++ (po ++ (pa ++ qu))))) ++ fr := by simp
      have nc : ∀ c, c ≠ 58 → c ≠ 47 → No (is c) colon := by intro c h1 h2 x hx; simp [colon] at hx; simp [is]; omega
      rw [e, pre_ends ((Sch.no hu hS (by decide)).app ((nc 35 (by decide) (by decide)).app P.all35)) P.fr0] at hc
      have e2 : u ++ (colon ++ (h ++ (po ++ (pa ++ qu)))) = (u ++ (colon ++ (h ++ (po ++ pa)))) ++ qu := by simp
      rw [e2, pre_ends ((Sch.no hu hS (by decide)).app ((nc 63 (by decide) (by decide)).app P.all63)) P.qu0, cut3_hit _ (Sch.no hu hS (by decide))] at hc
      cases hc
  | some y =>
    obtain ⟨u, r⟩ := y
    have e := cut3_some hc
    have e1 := pre_post (is 35) s
    have e2 := pre_post (is 63) (pre (is 35) s)
    have n1 := pre_no (is 35) s
    have n2 := pre_no (is 63) (pre (is 35) s)
    have f1 := post_is (is 35) s
    have f2 := post_is (is 63) (pre (is 35) s)
    show (if lower u = http ∨ lower u = https then _ else _) = _
    generalize post (is 35) s = fr at *
    generalize hq : post (is 63) (pre (is 35) s) = qu at *
    rw [e] at e2 n2
    rw [← e2] at e1 n1
    split
    · rename_i hS
      have es : s = u ++ (colon ++ (r ++ (qu ++ fr))) := by rw [← e1]; simp
      have r63 : No (is 63) r := n2.right.right
      have r35 : No (is 35) r := n1.left.right.right
      have P : Parts5 (pre (is 58) (pre (is 47) r)) (post (is 58) (pre (is 47) r)) (post (is 47) r) qu fr := by
        have n3 := pre_no (is 47) r
        exact ⟨pre_no _ _, sub_no n3 (fun x hx => pre_mem hx), sub_no r63 (fun x hx => pre_mem (pre_mem hx)), sub_no r35 (fun x hx => pre_mem (pre_mem hx)), post_is _ _, sub_no n3 (fun x hx => post_mem hx), sub_no r63 (fun x hx => pre_mem (post_mem hx)), sub_no r35 (fun x hx => pre_mem (post_mem hx)), post_is _ _, sub_no r63 (fun x hx => post_mem hx), sub_no r35 (fun x hx => post_mem hx), f2, n1.right, f1⟩
      have er : pre (is 58) (pre (is 47) r) ++ (post (is 58) (pre (is 47) r) ++ (post (is 47) r ++ (qu ++ fr))) = r ++ (qu ++ fr) := by
        rw [← List.append_assoc, pre_post, ← List.append_assoc, pre_post]
      rw [← parse_parts rfl hS P, er, ← es]
    · rename_i hS
      cases hs : schemeOf s with
      | none => rw [parse_none hs]
      | some y =>
        obtain ⟨sch, t⟩ := y
        obtain ⟨v, ev, hv, hS2⟩ := schemeOf_some hs
        exfalso
        obtain ⟨h, po, pa, qu', fr', rfl, P⟩ := parts_of t
        have nc : ∀ c, c ≠ 58 → c ≠ 47 → No (is c) colon := by intro c h1 h2 x hx; simp [colon] at hx; simp [is]; omega
        have e3 : pre (is 35) s = v ++ (colon ++ (h ++ (po ++ (pa ++ qu')))) := by
          have e : v ++ (colon ++ (h ++ (po ++ (pa ++ (qu' ++ fr'))))) = (v ++ (colon ++ (h ++ (po ++ (pa ++ qu'))))) ++ fr' := by simp
          rw [ev, e, pre_ends ((Sch.no hv hS2 (by decide)).app ((nc 35 (by decide) (by decide)).app P.all35)) P.fr0]
        have e4 : pre (is 63) (pre (is 35) s) = v ++ (colon ++ (h ++ (po ++ pa))) := by
          have e2 : v ++ (colon ++ (h ++ (po ++ (pa ++ qu')))) = (v ++ (colon ++ (h ++ (po ++ pa)))) ++ qu' := by simp
          rw [e3, e2, pre_ends ((Sch.no hv hS2 (by decide)).app ((nc 63 (by decide) (by decide)).app P.all63)) P.qu0]
        rw [e4, cut3_hit _ (Sch.no hv hS2 (by decide))] at hc
        simp only [Option.some.injEq, Prod.mk.injEq] at hc
        apply hS
        rw [← hc.1, hv]
        exact hS2
end AddrMath

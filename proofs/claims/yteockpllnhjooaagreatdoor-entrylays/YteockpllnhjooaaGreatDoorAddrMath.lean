/-
  Addresses as lists of bytes: their parts, hosts, ports, runes of a path, segments of dots. Plain mathematics, no program.
-/
import Derived.Test.YteockpllnhjooaaGreatDoorTxtMath
namespace AddrMath
set_option linter.unusedVariables false
set_option linter.unusedSimpArgs false
open TxtMath (dec enc byteAt contAt valid)

/-- What stands ahead of the first byte that p names; what stands from it on. -/
def pre (p : Nat → Bool) : List Nat → List Nat
  | [] => []
  | x :: t => if p x then [] else x :: pre p t
def post (p : Nat → Bool) : List Nat → List Nat
  | [] => []
  | x :: t => if p x then x :: t else post p t
theorem pre_cons (p : Nat → Bool) (x : Nat) (t : List Nat) : pre p (x :: t) = if p x then [] else x :: pre p t := rfl
theorem post_cons (p : Nat → Bool) (x : Nat) (t : List Nat) : post p (x :: t) = if p x then x :: t else post p t := rfl
def is (c : Nat) : Nat → Bool := fun x => x == c
/-- No byte that p names. -/
def No (p : Nat → Bool) (l : List Nat) : Prop := ∀ x ∈ l, p x = false

theorem No.nil (p : Nat → Bool) : No p [] := by intro x hx; cases hx
theorem No.cons {p : Nat → Bool} {x : Nat} {l : List Nat} (h : p x = false) (hl : No p l) : No p (x :: l) := by
  intro y hy; rcases List.mem_cons.1 hy with rfl | hy; exact h; exact hl y hy
theorem No.app {p : Nat → Bool} {a b : List Nat} (ha : No p a) (hb : No p b) : No p (a ++ b) := by
  intro y hy; rcases List.mem_append.1 hy with h | h; exact ha y h; exact hb y h
theorem No.left {p : Nat → Bool} {a b : List Nat} (h : No p (a ++ b)) : No p a := fun x hx => h x (List.mem_append.2 (.inl hx))
theorem No.right {p : Nat → Bool} {a b : List Nat} (h : No p (a ++ b)) : No p b := fun x hx => h x (List.mem_append.2 (.inr hx))
theorem No.tail {p : Nat → Bool} {x : Nat} {l : List Nat} (h : No p (x :: l)) : No p l := fun y hy => h y (by simp [hy])
theorem No.head {p : Nat → Bool} {x : Nat} {l : List Nat} (h : No p (x :: l)) : p x = false := h x (by simp)

theorem pre_post (p : Nat → Bool) : ∀ l, pre p l ++ post p l = l
  | [] => rfl
  | x :: t => by
    unfold pre post
    cases h : p x with
    | true => simp
    | false => simp [pre_post p t]
theorem pre_no (p : Nat → Bool) : ∀ l, No p (pre p l)
  | [] => No.nil p
  | x :: t => by
    unfold pre
    cases h : p x with
    | true => simp; exact No.nil p
    | false => simp; exact No.cons h (pre_no p t)
theorem post_cases (p : Nat → Bool) : ∀ l, post p l = [] ∨ ∃ c t, post p l = c :: t ∧ p c = true
  | [] => .inl rfl
  | x :: t => by
    unfold post
    cases h : p x with
    | true => right; exact ⟨x, t, by simp, h⟩
    | false => simpa using post_cases p t
theorem pre_hit {p : Nat → Bool} {c : Nat} (hc : p c = true) (t : List Nat) : ∀ {a : List Nat}, No p a → pre p (a ++ c :: t) = a
  | [], _ => by simp [pre, hc]
  | x :: a, h => by
    have hx : p x = false := h x (by simp)
    show pre p (x :: (a ++ c :: t)) = _
    unfold pre
    rw [hx]; simp; exact pre_hit hc t (fun y hy => h y (by simp [hy]))
theorem post_hit {p : Nat → Bool} {c : Nat} (hc : p c = true) (t : List Nat) : ∀ {a : List Nat}, No p a → post p (a ++ c :: t) = c :: t
  | [], _ => by simp [post, hc]
  | x :: a, h => by
    have hx : p x = false := h x (by simp)
    show post p (x :: (a ++ c :: t)) = _
    unfold post
    rw [hx]; simp; exact post_hit hc t (fun y hy => h y (by simp [hy]))
theorem pre_all {p : Nat → Bool} : ∀ {a : List Nat}, No p a → pre p a = a
  | [], _ => rfl
  | x :: a, h => by
    have hx : p x = false := h x (by simp)
    unfold pre; rw [hx]; simp; exact pre_all (fun y hy => h y (by simp [hy]))
theorem post_all {p : Nat → Bool} : ∀ {a : List Nat}, No p a → post p a = []
  | [], _ => rfl
  | x :: a, h => by
    have hx : p x = false := h x (by simp)
    unfold post; rw [hx]; simp; exact post_all (fun y hy => h y (by simp [hy]))
/-- Ahead of what is nothing, or begins with a byte that p names. -/
def Ends (p : Nat → Bool) (b : List Nat) : Prop := b = [] ∨ ∃ c t, b = c :: t ∧ p c = true
theorem Ends.nil (p : Nat → Bool) : Ends p [] := .inl rfl
theorem Ends.cons {p : Nat → Bool} {c : Nat} (h : p c = true) (t : List Nat) : Ends p (c :: t) := .inr ⟨c, t, rfl, h⟩
theorem pre_ends {p : Nat → Bool} {a b : List Nat} (ha : No p a) (hb : Ends p b) : pre p (a ++ b) = a := by
  rcases hb with rfl | ⟨c, t, rfl, hc⟩
  · rw [List.append_nil]; exact pre_all ha
  · exact pre_hit hc t ha
theorem post_ends {p : Nat → Bool} {a b : List Nat} (ha : No p a) (hb : Ends p b) : post p (a ++ b) = b := by
  rcases hb with rfl | ⟨c, t, rfl, hc⟩
  · rw [List.append_nil]; exact post_all ha
  · exact post_hit hc t ha
theorem post_is (p : Nat → Bool) (l : List Nat) : Ends p (post p l) := by
  rcases post_cases p l with h | ⟨c, t, h, hc⟩
  · exact .inl h
  · exact .inr ⟨c, t, h, hc⟩
theorem pre_len (p : Nat → Bool) (l : List Nat) : (pre p l).length ≤ l.length := by
  have := congrArg List.length (pre_post p l)
  rw [List.length_append] at this; omega
theorem post_len (p : Nat → Bool) (l : List Nat) : (pre p l).length + (post p l).length = l.length := by
  have := congrArg List.length (pre_post p l)
  rw [List.length_append] at this; omega
theorem pre_mem {p : Nat → Bool} {l : List Nat} {x : Nat} (h : x ∈ pre p l) : x ∈ l := by
  rw [← pre_post p l]; exact List.mem_append.2 (.inl h)
theorem post_mem {p : Nat → Bool} {l : List Nat} {x : Nat} (h : x ∈ post p l) : x ∈ l := by
  rw [← pre_post p l]; exact List.mem_append.2 (.inr h)
theorem pre_take (p : Nat → Bool) (l : List Nat) : l.take (pre p l).length = pre p l := by
  have h := pre_post p l
  generalize pre p l = a at *
  rw [← h]; simp
theorem post_drop (p : Nat → Bool) (l : List Nat) : l.drop (pre p l).length = post p l := by
  have h := pre_post p l
  generalize pre p l = a at *
  generalize post p l = b at *
  rw [← h]; simp
theorem No.or {p q : Nat → Bool} {l : List Nat} (hp : No p l) (hq : No q l) : No (fun x => p x || q x) l := by
  intro x hx; simp [hp x hx, hq x hx]

/- small letters, labels, hosts -/
def small (c : Nat) : Nat := if 65 ≤ c ∧ c ≤ 90 then c + 32 else c
def lower (l : List Nat) : List Nat := l.map small
def labC (c : Nat) : Bool := (decide (97 ≤ c) && decide (c ≤ 122)) || (decide (48 ≤ c) && decide (c ≤ 57)) || c == 45
def isLab (l : List Nat) : Bool := l.all labC && decide (1 ≤ l.length) && decide (l.length ≤ 63) && l.head? != some 45 && l.getLast? != some 45
def splitD (c : Nat) : List Nat → List (List Nat)
  | [] => [[]]
  | x :: t => if x = c then [] :: splitD c t else
    match splitD c t with
    | [] => [[x]]
    | h :: r => (x :: h) :: r
def isHost (l : List Nat) : Bool := decide (l.length ≤ 100) && (splitD 46 l).all isLab

theorem splitD_ne (c : Nat) : ∀ l, splitD c l ≠ []
  | [] => by simp [splitD]
  | x :: t => by
    unfold splitD
    split
    · simp
    · split <;> simp
theorem splitD_nil (c : Nat) : splitD c [] = [[]] := rfl
theorem splitD_cons (c x : Nat) (t : List Nat) : splitD c (x :: t) = if x = c then [] :: splitD c t else match splitD c t with | [] => [[x]] | h :: r => (x :: h) :: r := rfl
theorem splitD_count (c : Nat) : ∀ l, (splitD c l).length = l.count c + 1
  | [] => rfl
  | x :: t => by
    have ih := splitD_count c t
    rw [splitD_cons, List.count_cons]
    split
    · rename_i h; subst h; simp [ih]
    · rename_i h
      cases hs : splitD c t with
      | nil => exact absurd hs (splitD_ne c t)
      | cons g r => rw [hs] at ih; simp at ih ⊢; rw [if_neg (fun e => h e)]; omega
theorem splitD_none {c : Nat} : ∀ {a : List Nat}, No (is c) a → splitD c a = [a]
  | [], _ => rfl
  | x :: a, h => by
    have hx : x ≠ c := by have := h x (by simp); simpa [is] using this
    unfold splitD
    rw [if_neg hx, splitD_none h.tail]
theorem splitD_hit {c : Nat} (t : List Nat) : ∀ {a : List Nat}, No (is c) a → splitD c (a ++ c :: t) = a :: splitD c t
  | [], _ => by simp [splitD]
  | x :: a, h => by
    have hx : x ≠ c := by have := h x (by simp); simpa [is] using this
    show splitD c (x :: (a ++ c :: t)) = _
    rw [splitD_cons, if_neg hx, splitD_hit t h.tail]
theorem splitD_no (c : Nat) : ∀ l, ∀ g ∈ splitD c l, No (is c) g
  | [], g, hg => by simp [splitD] at hg; subst hg; exact No.nil _
  | x :: t, g, hg => by
    have ih := splitD_no c t
    unfold splitD at hg
    split at hg
    · rcases List.mem_cons.1 hg with rfl | hg
      · exact No.nil _
      · exact ih g hg
    · rename_i hx
      split at hg
      · simp at hg; subst hg; exact No.cons (by simp [is, hx]) (No.nil _)
      · rename_i h r e
        rcases List.mem_cons.1 hg with rfl | hg
        · exact No.cons (by simp [is, hx]) (ih h (by rw [e]; simp))
        · exact ih g (by rw [e]; simp [hg])
theorem splitD_mem (c : Nat) : ∀ l, ∀ g ∈ splitD c l, ∀ x ∈ g, x ∈ l
  | [], g, hg => by simp [splitD] at hg; subst hg; simp
  | y :: t, g, hg => by
    have ih := splitD_mem c t
    unfold splitD at hg
    intro x hx
    split at hg
    · rcases List.mem_cons.1 hg with rfl | hg
      · simp at hx
      · simp [ih g hg x hx]
    · split at hg
      · simp at hg; subst hg; simp at hx; simp [hx]
      · rename_i h r e
        rcases List.mem_cons.1 hg with rfl | hg
        · rcases List.mem_cons.1 hx with rfl | hx
          · simp
          · simp [ih h (by rw [e]; simp) x hx]
        · simp [ih g (by rw [e]; simp [hg]) x hx]
/-- Two texts with c between. -/
theorem splitD_app {c : Nat} (b : List Nat) : ∀ a : List Nat, splitD c (a ++ c :: b) = splitD c a ++ splitD c b
  | [] => by simp [splitD]
  | x :: a => by
    have ih := splitD_app (c := c) b a
    show splitD c (x :: (a ++ c :: b)) = _
    rw [splitD_cons, splitD_cons, ih]
    split
    · simp
    · cases h : splitD c a with
      | nil => exact absurd h (splitD_ne c a)
      | cons g r => simp

/- ports -/
def digit (c : Nat) : Bool := decide (48 ≤ c) && decide (c ≤ 57)
def value (l : List Nat) : Nat := l.foldl (fun n c => n * 10 + (c - 48)) 0
def isPort (l : List Nat) : Bool := decide (1 ≤ l.length) && decide (l.length ≤ 5) && l.head? != some 48 && l.all digit && decide (value l ≤ 65535)
def http : List Nat := [104, 116, 116, 112]
def https : List Nat := [104, 116, 116, 112, 115]
def usual (sch : List Nat) : List Nat := if sch = https then [52, 52, 51] else [56, 48]

/- runes of a path or a query -/
def plain (c : Nat) : Bool := (decide (97 ≤ c) && decide (c ≤ 122)) || (decide (65 ≤ c) && decide (c ≤ 90)) || (decide (48 ≤ c) && decide (c ≤ 57)) || c == 45 || c == 46 || c == 95 || c == 126
def signs : List Nat := [33, 36, 38, 39, 40, 41, 42, 43, 44, 59, 61, 58, 64, 47]
def extra (q : Bool) (c : Nat) : Bool := signs.contains c || (q && c == 63)
def hexV (c : Nat) : Option Nat :=
  if 48 ≤ c ∧ c ≤ 57 then some (c - 48) else if 97 ≤ c ∧ c ≤ 102 then some (c - 87) else if 65 ≤ c ∧ c ≤ 70 then some (c - 55) else none
def hexD (n : Nat) : Nat := if n < 10 then 48 + n else 55 + n
def escape (b : Nat) : List Nat := [37, hexD (b / 16), hexD (b % 16)]
def meant (b : Nat) : List Nat := if plain b then [b] else escape b
/-- The byte that the first two digits mean. -/
def hexAt : List Nat → Option Nat
  | a :: b :: _ => match hexV a, hexV b with
    | some h, some l => some (16 * h + l)
    | _, _ => none
  | _ => none
def wayS (q : Bool) : Nat → List Nat → Option (List Nat)
  | _, [] => some []
  | k + 1, _ :: t => wayS q k t
  | 0, b :: t =>
    if b = 37 then
      match hexAt t with
      | some v => (wayS q 2 t).map (meant v ++ ·)
      | none => none
    else if b < 128 then
      if plain b || extra q b then (wayS q 0 t).map (b :: ·) else none
    else if (dec (b :: t)).2 = 1 then none
    else (wayS q ((dec (b :: t)).2 - 1) t).map (((b :: t).take (dec (b :: t)).2).flatMap escape ++ ·)
def way (q : Bool) (l : List Nat) : Option (List Nat) := wayS q 0 l
theorem wayS_drop (q : Bool) : ∀ (k : Nat) (l : List Nat), wayS q k l = way q (l.drop k)
  | 0, l => by simp [way]
  | k + 1, [] => by simp [way, wayS]
  | k + 1, b :: t => by simp only [wayS, List.drop_succ_cons]; exact wayS_drop q k t
theorem way_nil (q : Bool) : way q [] = some [] := rfl
theorem way_pct (q : Bool) (t : List Nat) : way q (37 :: t) = match hexAt t with | some v => (way q (t.drop 2)).map (meant v ++ ·) | none => none := by
  unfold way; rw [wayS, if_pos rfl]; rw [wayS_drop]; rfl
theorem way_low {q : Bool} {b : Nat} (t : List Nat) (h : b ≠ 37) (hb : b < 128) : way q (b :: t) = if plain b || extra q b then (way q t).map (b :: ·) else none := by
  unfold way; rw [wayS, if_neg h, if_pos hb]
theorem way_high {q : Bool} {b : Nat} (t : List Nat) (hb : 128 ≤ b) : way q (b :: t) = if (dec (b :: t)).2 = 1 then none else (way q ((b :: t).drop (dec (b :: t)).2)).map (((b :: t).take (dec (b :: t)).2).flatMap escape ++ ·) := by
  have hp := (TxtMath.dec_pos (b :: t)).1
  obtain ⟨n, hn⟩ : ∃ n, (dec (b :: t)).2 = n + 1 := ⟨(dec (b :: t)).2 - 1, by omega⟩
  unfold way; rw [wayS, if_neg (by omega), if_neg (by omega)]; rw [wayS_drop, hn]; simp [way]
theorem way_no63 : ∀ (n : Nat) (l : List Nat), l.length ≤ n → No (is 63) l → way false l = way true l
  | 0, l, h, _ => by have : l = [] := List.eq_nil_of_length_eq_zero (by omega); subst this; rfl
  | n + 1, [], h, _ => rfl
  | n + 1, b :: t, h, hn => by
    have hb : b ≠ 63 := by have := hn.head; simpa [is] using this
    have htl : ∀ k, No (is 63) (t.drop k) := fun k x hx => hn x (by simp [List.mem_of_mem_drop hx])
    simp only [List.length_cons] at h
    by_cases h1 : b = 37
    · subst h1
      rw [way_pct, way_pct, way_no63 n (t.drop 2) (by simp; omega) (htl 2)]
    · by_cases h2 : b < 128
      · rw [way_low t h1 h2, way_low t h1 h2, way_no63 n t (by omega) (htl 0)]
        have : extra false b = extra true b := by simp [extra, hb]
        rw [this]
      · have hp := (TxtMath.dec_pos (b :: t)).1
        obtain ⟨m, hm⟩ : ∃ m, (dec (b :: t)).2 = m + 1 := ⟨(dec (b :: t)).2 - 1, by omega⟩
        rw [way_high t (by omega), way_high t (by omega), hm, List.drop_succ_cons, way_no63 n (t.drop m) (by simp; omega) (htl m)]

/- segments of dots -/
def dotsGo : List (List Nat) → List (List Nat) → List (List Nat)
  | st, [] => st
  | st, [g] => if g = [46] then st ++ [[]] else if g = [46, 46] then st.dropLast ++ [[]] else st ++ [g]
  | st, g :: h :: r => if g = [46] then dotsGo st (h :: r) else if g = [46, 46] then dotsGo st.dropLast (h :: r) else dotsGo (st ++ [g]) (h :: r)
def join (l : List (List Nat)) : List Nat := l.flatMap (fun g => 47 :: g)
def dots (p : List Nat) : List Nat := join (dotsGo [] (splitD 47 p))
theorem join_nil : join [] = [] := rfl
theorem join_app (a b : List (List Nat)) : join (a ++ b) = join a ++ join b := by simp [join]
theorem join_one (g : List Nat) : join [g] = 47 :: g := by simp [join]
theorem join_cons (g : List Nat) (r : List (List Nat)) : join (g :: r) = 47 :: (g ++ join r) := by simp [join]

/- an address -/
def colon : List Nat := [58, 47, 47]
def schemeOf (s : List Nat) : Option (List Nat × List Nat) :=
  if (lower (pre (is 58) s) = http ∨ lower (pre (is 58) s) = https) ∧ (post (is 58) s).take 3 = colon then some (lower (pre (is 58) s), (post (is 58) s).drop 3) else none
/-- The form of the parts: host, port with its colon, path with its first slash, query with its sign. -/
def combine (sch h po pa qu : List Nat) : Option (List Nat) :=
  if isHost (lower h) && (po.isEmpty || isPort po.tail) then
    match way true pa.tail, way true qu.tail with
    | some p, some y => some (sch ++ (colon ++ (lower h ++ ((if po = [] ∨ po.tail = usual sch then [] else po) ++ (dots p ++ (if qu = [] then [] else 63 :: y))))))
    | _, _ => none
  else none
def parseT (sch t : List Nat) : Option (List Nat) :=
  combine sch (pre (is 58) (pre (is 47) (pre (is 63) (pre (is 35) t)))) (post (is 58) (pre (is 47) (pre (is 63) (pre (is 35) t)))) (post (is 47) (pre (is 63) (pre (is 35) t))) (post (is 63) (pre (is 35) t))
def finish (f : Option (List Nat)) : List Nat × Nat :=
  match f with
  | none => ([], 25)
  | some f => if f.length ≤ 200 then (f, 0) else ([], 23)
def parse (s : List Nat) : List Nat × Nat := finish (match schemeOf s with | none => none | some (sch, t) => parseT sch t)
def right (s : List Nat) : Bool := decide (parse s = (s, 0))
def hostOf (s : List Nat) : List Nat := if right s then pre (is 47) ((post (is 58) s).drop 3) else []
end AddrMath

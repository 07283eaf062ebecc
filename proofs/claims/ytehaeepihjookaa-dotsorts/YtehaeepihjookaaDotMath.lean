/-
  Dots as plain mathematics: which are right, their order, sorting, their bytes, what bytes say, lists of them.
-/
import Derived.Test.YtehaeepihjookaaMathI
namespace DotMath
open NumMath
set_option linter.unusedVariables false
set_option linter.unusedSimpArgs false

structure Dt where
  r : Int
  s : Int

theorem Dt.eq_iff {a b : Dt} : a = b ↔ a.r = b.r ∧ a.s = b.s := by cases a; cases b; simp
def zero : Dt := ⟨0, 0⟩
/-- Each field is a number of 64 bits. -/
def Fit (d : Dt) : Prop := (-9223372036854775808 ≤ d.r ∧ d.r ≤ 9223372036854775807) ∧ (-9223372036854775808 ≤ d.s ∧ d.s ≤ 9223372036854775807)
theorem fit_zero : Fit zero := by unfold Fit zero; decide
def right (d : Dt) : Bool := decide (0 ≤ d.r ∧ d.r < 64 ∧ 1 ≤ d.s ∧ d.s ≤ 1099511627775)
theorem right_iff {d : Dt} : right d = true ↔ 0 ≤ d.r ∧ d.r < 64 ∧ 1 ≤ d.s ∧ d.s ≤ 1099511627775 := by simp [right]
theorem right_fit {d : Dt} (h : right d = true) : Fit d := by
  have := right_iff.1 h
  unfold Fit; omega
def less (a b : Dt) : Bool := decide (a.r < b.r ∨ (a.r = b.r ∧ a.s < b.s))
theorem less_iff {a b : Dt} : less a b = true ↔ (a.r < b.r ∨ (a.r = b.r ∧ a.s < b.s)) := by simp [less]
theorem less_no {a b : Dt} : less a b = false ↔ ¬ (a.r < b.r ∨ (a.r = b.r ∧ a.s < b.s)) := by
  rw [← less_iff]; simp
theorem less_irrefl (a : Dt) : less a a = false := by rw [less_no]; omega
theorem less_trans {a b c : Dt} (h : less a b = true) (g : less b c = true) : less a c = true := by
  rw [less_iff] at *; omega
theorem less_asymm {a b : Dt} (h : less a b = true) : less b a = false := by
  rw [less_iff] at h; rw [less_no]; omega
theorem less_total {a b : Dt} (h : less a b = false) (g : less b a = false) : a = b := by
  rw [less_no] at h g; rw [Dt.eq_iff]; omega
theorem less_ne {a b : Dt} (h : less a b = true) : a ≠ b := fun e => by rw [e, less_irrefl] at h; cases h

-- sorting
def Rise (l : List Dt) : Prop := l.Pairwise (fun a b => less a b = true)
def ins (d : Dt) : List Dt → List Dt
  | [] => [d]
  | x :: t => if less x d = true then x :: ins d t else if x.r = d.r ∧ x.s = d.s then x :: t else d :: x :: t
def sort (l : List Dt) : List Dt := l.foldl (fun acc d => ins d acc) []
theorem ins_mem (d : Dt) : ∀ (l : List Dt) (x : Dt), x ∈ ins d l ↔ x = d ∨ x ∈ l
  | [], x => by simp [ins]
  | y :: t, x => by
    unfold ins
    split
    · simp only [List.mem_cons, ins_mem d t x]
      constructor <;> rintro (h | h | h) <;> simp [h]
    · split
      · rename_i h
        have : y = d := Dt.eq_iff.2 h
        subst this
        simp
      · simp
theorem ins_rise (d : Dt) : ∀ l : List Dt, Rise l → Rise (ins d l)
  | [], _ => by simp [ins, Rise]
  | y :: t, h => by
    have hc := List.pairwise_cons.1 h
    unfold ins
    split
    · rename_i hl
      refine List.pairwise_cons.2 ⟨fun x hx => ?_, ins_rise d t hc.2⟩
      rcases (ins_mem d t x).1 hx with rfl | hx
      · exact hl
      · exact hc.1 x hx
    · split
      · exact h
      · rename_i h1 h2
        refine List.pairwise_cons.2 ⟨fun x hx => ?_, h⟩
        have hyd : less d y = true := by
          cases hq : less d y with
          | true => rfl
          | false => exact absurd (Dt.eq_iff.1 (less_total (by simpa using h1) hq)) h2
        rcases List.mem_cons.1 hx with rfl | hx
        · exact hyd
        · exact less_trans hyd (hc.1 x hx)
theorem ins_len (d : Dt) : ∀ l : List Dt, (ins d l).length ≤ l.length + 1
  | [] => by simp [ins]
  | y :: t => by
    unfold ins
    have := ins_len d t
    split
    · simp; omega
    · split <;> simp
theorem sort_snoc (l : List Dt) (d : Dt) : sort (l ++ [d]) = ins d (sort l) := by simp [sort, List.foldl_append]
theorem sort_fold (l : List Dt) : ∀ acc, (Rise acc → Rise (l.foldl (fun acc d => ins d acc) acc)) ∧ (∀ x, x ∈ l.foldl (fun acc d => ins d acc) acc ↔ x ∈ acc ∨ x ∈ l) ∧ (l.foldl (fun acc d => ins d acc) acc).length ≤ acc.length + l.length := by
  induction l with
  | nil => intro acc; simp
  | cons d t ih =>
    intro acc
    obtain ⟨h1, h2, h3⟩ := ih (ins d acc)
    have := ins_len d acc
    refine ⟨fun h => h1 (ins_rise d acc h), fun x => ?_, ?_⟩
    · rw [List.foldl_cons, h2 x, ins_mem]
      constructor
      · rintro ((h | h) | h) <;> simp [h]
      · rintro (h | h)
        · exact .inl (.inr h)
        · rcases List.mem_cons.1 h with h | h
          · exact .inl (.inl h)
          · exact .inr h
    · rw [List.foldl_cons]; simp only [List.length_cons]; omega
theorem sort_rise (l : List Dt) : Rise (sort l) := (sort_fold l []).1 List.Pairwise.nil
theorem sort_mem (l : List Dt) (x : Dt) : x ∈ sort l ↔ x ∈ l := by rw [sort, (sort_fold l []).2.1]; simp
theorem sort_len (l : List Dt) : (sort l).length ≤ l.length := by have := (sort_fold l []).2.2; simpa [sort] using this
/-- A rising list is told by what is in it. -/
theorem rise_ext : ∀ {a b : List Dt}, Rise a → Rise b → (∀ x, x ∈ a ↔ x ∈ b) → a = b
  | [], [], _, _, _ => rfl
  | [], y :: t, _, _, h => absurd ((h y).2 (by simp)) (by simp)
  | x :: s, [], _, _, h => absurd ((h x).1 (by simp)) (by simp)
  | x :: s, y :: t, ha, hb, h => by
    have hac := List.pairwise_cons.1 ha
    have hbc := List.pairwise_cons.1 hb
    have e : x = y := by
      rcases List.mem_cons.1 ((h x).1 (by simp)) with e | hx
      · exact e
      · rcases List.mem_cons.1 ((h y).2 (by simp)) with e | hy
        · exact e.symm
        · have h1 := hbc.1 x hx
          have h2 := less_asymm (hac.1 y hy)
          rw [h1] at h2; cases h2
    subst e
    have : s = t := rise_ext hac.2 hbc.2 (fun z => by
      constructor
      · intro hz
        rcases List.mem_cons.1 ((h z).1 (by simp [hz])) with e | hz2
        · have := hac.1 z hz; rw [e, less_irrefl] at this; cases this
        · exact hz2
      · intro hz
        rcases List.mem_cons.1 ((h z).2 (by simp [hz])) with e | hz2
        · have := hbc.1 z hz; rw [e, less_irrefl] at this; cases this
        · exact hz2)
    rw [this]
theorem sort_eq {a b : List Dt} (h : ∀ x, x ∈ a ↔ x ∈ b) : sort a = sort b := rise_ext (sort_rise a) (sort_rise b) (fun x => by rw [sort_mem, sort_mem]; exact h x)
theorem sort_of_rise {a : List Dt} (h : Rise a) : sort a = a := rise_ext (sort_rise a) h (fun x => sort_mem a x)
theorem sort_sort (a : List Dt) : sort (sort a) = sort a := sort_of_rise (sort_rise a)
/-- Where a dot is laid in. -/
theorem ins_at (d : Dt) : ∀ (l : List Dt) (k : Nat), (∀ j, j < k → less (l[j]?.getD zero) d = true) → k ≤ l.length → (k = l.length ∨ (less (l[k]?.getD zero) d = false ∧ l[k]?.getD zero ≠ d)) → ins d l = l.take k ++ d :: l.drop k
  | [], k, _, hk, _ => by simp at hk; subst hk; rfl
  | y :: t, 0, _, _, h => by
    rcases h with h | ⟨h1, h2⟩
    · simp at h
    · simp at h1 h2
      unfold ins
      rw [if_neg (by rw [h1]; simp), if_neg (fun e => h2 (Dt.eq_iff.2 e))]
      rfl
  | y :: t, k + 1, hl, hk, h => by
    have h0 := hl 0 (by omega)
    simp at h0
    unfold ins
    rw [if_pos h0, ins_at d t k (fun j hj => by have := hl (j + 1) (by omega); simpa using this) (by simpa using hk) (by simpa using h)]
    rfl
theorem ins_has (d : Dt) : ∀ (l : List Dt) (k : Nat), (∀ j, j < k → less (l[j]?.getD zero) d = true) → k < l.length → l[k]?.getD zero = d → ins d l = l
  | [], k, _, hk, _ => by simp at hk
  | y :: t, 0, _, _, h => by
    simp at h
    subst h
    unfold ins
    rw [less_irrefl]
    simp
  | y :: t, k + 1, hl, hk, h => by
    have h0 := hl 0 (by omega)
    simp at h0
    unfold ins
    rw [if_pos h0, ins_has d t k (fun j hj => by have := hl (j + 1) (by omega); simpa using this) (by simpa using hk) (by simpa using h)]

-- bytes
def bytes (d : Dt) : List Int := if right d = true then d.r :: D d.s else []
theorem bytes_yes {d : Dt} (h : right d = true) : bytes d = d.r :: D d.s := by rw [bytes, if_pos h]
theorem bytes_no {d : Dt} (h : right d = false) : bytes d = [] := by rw [bytes, if_neg (by rw [h]; simp)]
theorem bytes_byte (d : Dt) : ∀ c ∈ bytes d, 0 ≤ c ∧ c ≤ 255 := by
  intro c hc
  cases h : right d with
  | false => rw [bytes_no h] at hc; cases hc
  | true =>
    have := right_iff.1 h
    rw [bytes_yes h] at hc
    rcases List.mem_cons.1 hc with rfl | hc
    · omega
    · exact D_byte (by omega) (by omega) c hc
theorem bytes_len (d : Dt) : (bytes d).length ≤ 11 := by
  cases h : right d with
  | false => rw [bytes_no h]; simp
  | true => rw [bytes_yes h]; have := D_len d.s; simp; omega
theorem bytes_pos {d : Dt} (h : right d = true) : 2 ≤ (bytes d).length := by rw [bytes_yes h]; have := D_len d.s; simp; omega
theorem bytes_nil (d : Dt) : (bytes d).length = 0 ↔ right d = false := by
  cases h : right d with
  | false => rw [bytes_no h]; simp
  | true => have := bytes_pos h; simp; intro e; rw [e] at this; simp at this
def take : List Int → Dt × Int × Int
  | [] => (zero, 0, 20)
  | c :: t => if 64 ≤ c then (zero, 0, 21) else if (tak t).2.2 ≠ 0 then (zero, 0, (tak t).2.2) else
      if (tak t).1 < 1 ∨ 1099511627775 < (tak t).1 then (zero, 0, 21) else (⟨c, (tak t).1⟩, (tak t).2.1 + 1, 0)
theorem take_cons (c : Int) (t : List Int) : take (c :: t) = if 64 ≤ c then (zero, 0, 21) else if (tak t).2.2 ≠ 0 then (zero, 0, (tak t).2.2) else if (tak t).1 < 1 ∨ 1099511627775 < (tak t).1 then (zero, 0, 21) else (⟨c, (tak t).1⟩, (tak t).2.1 + 1, 0) := rfl
theorem take_cases (zs : List Int) (hb : ∀ c ∈ zs, 0 ≤ c ∧ c ≤ 255) : take zs = (zero, 0, 20) ∨ take zs = (zero, 0, 21) ∨
    ∃ (n : Nat) (d : Dt), 2 ≤ n ∧ n ≤ zs.length ∧ take zs = (d, (n : Int), 0) ∧ right d = true ∧ bytes d = zs.take n := by
  cases zs with
  | nil => exact .inl rfl
  | cons c t =>
    have hc := hb c (by simp)
    have ht := tak_cases t (fun x hx => hb x (by simp [hx]))
    rw [take_cons]
    by_cases h64 : 64 ≤ c
    · rw [if_pos h64]; exact .inr (.inl rfl)
    rw [if_neg h64]
    rcases ht with h | h | ⟨k, v, hk, hkl, hv0, hv1, h, hD⟩
    · rw [h]; exact .inl rfl
    · rw [h]; exact .inr (.inl rfl)
    · rw [h]
      simp only []
      rw [if_neg (by simp)]
      by_cases hv : v < 1 ∨ 1099511627775 < v
      · rw [if_pos hv]; exact .inr (.inl rfl)
      · rw [if_neg hv]
        have hr : right ⟨c, v⟩ = true := right_iff.2 ⟨by simp only; omega, by simp only; omega, by simp only; omega, by simp only; omega⟩
        refine .inr (.inr ⟨k + 2, ⟨c, v⟩, by omega, by simp; omega, ?_, hr, ?_⟩)
        · simp; omega
        · rw [bytes_yes hr, hD]; simp
theorem take_back {d : Dt} (h : right d = true) (tail : List Int) : take (bytes d ++ tail) = (d, ((bytes d).length : Int), 0) := by
  obtain ⟨h0, h1, h2, h3⟩ := right_iff.1 h
  rw [bytes_yes h, List.cons_append, take_cons]
  rw [if_neg (by omega), tak_back (by omega) (by omega)]
  simp only []
  rw [if_neg (by simp), if_neg (by omega)]
  simp
/-- What is read is what is written, whatever stands behind. -/
theorem take_code (zs : List Int) (hb : ∀ c ∈ zs, 0 ≤ c ∧ c ≤ 255) : (take zs).2.2 = 0 ∨ take zs = (zero, 0, 20) ∨ take zs = (zero, 0, 21) := by
  rcases take_cases zs hb with h | h | ⟨n, d, _, _, h, _⟩
  · exact .inr (.inl h)
  · exact .inr (.inr h)
  · rw [h]; exact .inl rfl

-- lists
def okAt (l : List Dt) (i : Nat) : Bool := right (l[i]?.getD zero) && (i == 0 || less (l[i - 1]?.getD zero) (l[i]?.getD zero))
def risesTo (l : List Dt) (n : Nat) : Bool := (List.range n).all (okAt l)
def rises (l : List Dt) : Bool := risesTo l l.length
theorem risesTo_succ (l : List Dt) (n : Nat) : risesTo l (n + 1) = (risesTo l n && okAt l n) := by simp [risesTo, List.range_succ]
theorem risesTo_iff (l : List Dt) (n : Nat) : risesTo l n = true ↔ ∀ i, i < n → okAt l i = true := by simp [risesTo]
theorem risesTo_no {l : List Dt} {n i : Nat} (hi : i < n) (h : okAt l i = false) : risesTo l n = false := by
  cases hq : risesTo l n with
  | false => rfl
  | true => have := (risesTo_iff l n).1 hq i hi; rw [h] at this; cases this
theorem rise_of_steps : ∀ l : List Dt, (∀ i, i + 1 < l.length → less (l[i]?.getD zero) (l[i + 1]?.getD zero) = true) → Rise l
  | [], _ => List.Pairwise.nil
  | [x], _ => by simp [Rise]
  | x :: y :: t, h => by
    have ih := rise_of_steps (y :: t) (fun i hi => by have := h (i + 1) (by simpa using hi); simpa using this)
    have hxy := h 0 (by simp)
    simp at hxy
    refine List.pairwise_cons.2 ⟨fun z hz => ?_, ih⟩
    rcases List.mem_cons.1 hz with rfl | hz
    · exact hxy
    · exact less_trans hxy ((List.pairwise_cons.1 ih).1 z hz)
theorem rise_at {l : List Dt} (h : Rise l) {i j : Nat} (hij : i < j) (hj : j < l.length) : less (l[i]?.getD zero) (l[j]?.getD zero) = true := by
  have := List.pairwise_iff_getElem.1 h i j (by omega) hj hij
  simpa [show i < l.length by omega, hj] using this
theorem rises_iff (l : List Dt) : rises l = true ↔ (∀ d ∈ l, right d = true) ∧ Rise l := by
  unfold rises
  rw [risesTo_iff]
  constructor
  · intro h
    refine ⟨fun d hd => ?_, rise_of_steps l (fun i hi => ?_)⟩
    · obtain ⟨i, hi, rfl⟩ := List.getElem_of_mem hd
      have := h i hi
      simp [okAt, hi] at this
      exact this.1
    · have := h (i + 1) hi
      simp only [okAt, Nat.add_sub_cancel, Bool.and_eq_true, Bool.or_eq_true] at this
      rcases this.2 with h2 | h2
      · simp at h2
      · exact h2
  · rintro ⟨h1, h2⟩ i hi
    have hr := h1 l[i] (List.getElem_mem hi)
    unfold okAt
    simp only [Bool.and_eq_true, Bool.or_eq_true]
    refine ⟨by simpa [hi] using hr, ?_⟩
    cases i with
    | zero => exact .inl rfl
    | succ i => exact .inr (rise_at h2 (by omega) hi)
def put (l : List Dt) : List Int := if rises l = true ∧ l.length ≤ 16 then D (l.length : Int) ++ l.flatMap bytes else []
theorem flat_len (l : List Dt) : (l.flatMap bytes).length ≤ 11 * l.length := by
  induction l with
  | nil => simp
  | cons d t ih => have := bytes_len d; simp only [List.flatMap_cons, List.length_append, List.length_cons]; omega
theorem flat_byte (l : List Dt) : ∀ c ∈ l.flatMap bytes, 0 ≤ c ∧ c ≤ 255 := by
  intro c hc
  obtain ⟨d, _, hd⟩ := List.mem_flatMap.1 hc
  exact bytes_byte d c hd
theorem put_byte (l : List Dt) : ∀ c ∈ put l, 0 ≤ c ∧ c ≤ 255 := by
  intro c hc
  unfold put at hc
  split at hc
  · rename_i h
    rcases List.mem_append.1 hc with hc | hc
    · exact D_byte (by omega) (by omega) c hc
    · exact flat_byte l c hc
  · cases hc
theorem put_len (l : List Dt) : (put l).length ≤ 200 := by
  unfold put
  split
  · rename_i h
    have := D_len (l.length : Int); have := flat_len l
    rw [List.length_append]; omega
  · simp
theorem put_nil (l : List Dt) : (put l).length = 0 ↔ ¬ (rises l = true ∧ l.length ≤ 16) := by
  unfold put
  split
  · rename_i h
    have := D_len (l.length : Int)
    rw [List.length_append]
    constructor
    · intro; omega
    · intro hn; exact absurd h hn
  · rename_i h; simp [h]
def go (zs : List Int) : Nat → List Dt → Nat → List Dt × Int × Int
  | 0, acc, p => (acc, (p : Int), 0)
  | k + 1, acc, p =>
    if (take (zs.drop p)).2.2 ≠ 0 then ([], 0, (take (zs.drop p)).2.2) else
    if acc ≠ [] ∧ less (acc.getLast?.getD zero) (take (zs.drop p)).1 = false then ([], 0, 21) else
    go zs k (acc ++ [(take (zs.drop p)).1]) (p + (take (zs.drop p)).2.1.toNat)
def all (zs : List Int) : List Dt × Int × Int :=
  if (tak zs).2.2 ≠ 0 then ([], 0, (tak zs).2.2) else if 16 < (tak zs).1 then ([], 0, 21) else go zs (tak zs).1.toNat [] (tak zs).2.1.toNat
theorem rise_snoc {l : List Dt} {d : Dt} (h : Rise l) (hd : l = [] ∨ less (l.getLast?.getD zero) d = true) : Rise (l ++ [d]) := by
  refine List.pairwise_append.2 ⟨h, by simp, fun a ha b hb => ?_⟩
  simp at hb; subst hb
  rcases hd with rfl | hd
  · cases ha
  · have hne : l ≠ [] := fun e => by rw [e] at ha; cases ha
    obtain ⟨t, x, rfl⟩ : ∃ t x, l = t ++ [x] := ⟨l.dropLast, l.getLast hne, (List.dropLast_concat_getLast hne).symm⟩
    simp at hd
    rcases List.mem_append.1 ha with ha | ha
    · exact less_trans ((List.pairwise_append.1 h).2.2 a ha x (by simp)) hd
    · simp at ha; subst ha; exact hd
/-- What 'go' answers is told by what it has read so far. -/
theorem go_ok (zs : List Int) (hb : ∀ c ∈ zs, 0 ≤ c ∧ c ≤ 255) : ∀ (k : Nat) (acc : List Dt) (p : Nat), p ≤ zs.length → (∀ d ∈ acc, right d = true) → Rise acc →
    (go zs k acc p = ([], 0, 20) ∨ go zs k acc p = ([], 0, 21)) ∨
    ∃ (l : List Dt) (n : Nat), go zs k acc p = (l, (n : Int), 0) ∧ l.length = acc.length + k ∧ p ≤ n ∧ n ≤ zs.length ∧ (∀ d ∈ l, right d = true) ∧ Rise l ∧ ∃ m, l = acc ++ m ∧ m.flatMap bytes = (zs.drop p).take (n - p)
  | 0, acc, p, hp, hr, hs => .inr ⟨acc, p, rfl, rfl, Nat.le_refl _, hp, hr, hs, [], by simp, by simp⟩
  | k + 1, acc, p, hp, hr, hs => by
    have hbd : ∀ c ∈ zs.drop p, 0 ≤ c ∧ c ≤ 255 := fun c hc => hb c (List.mem_of_mem_drop hc)
    unfold go
    rcases take_cases (zs.drop p) hbd with h | h | ⟨n, d, hn2, hnl, h, hrd, hbs⟩
    · rw [h]; exact .inl (.inl rfl)
    · rw [h]; exact .inl (.inr rfl)
    · rw [h]
      simp only []
      rw [if_neg (by simp)]
      by_cases hq : acc ≠ [] ∧ less (acc.getLast?.getD zero) d = false
      · rw [if_pos hq]; exact .inl (.inr rfl)
      · rw [if_neg hq]
        have hd : acc = [] ∨ less (acc.getLast?.getD zero) d = true := by
          by_cases he : acc = []
          · exact .inl he
          · right
            cases hx : less (acc.getLast?.getD zero) d with
            | true => rfl
            | false => exact absurd ⟨he, hx⟩ hq
        have hnl2 : n ≤ zs.length - p := by simpa using hnl
        have e : ((n : Int)).toNat = n := by omega
        rw [e]
        have hr2 : ∀ x ∈ acc ++ [d], right x = true := fun x hx => by
          rcases List.mem_append.1 hx with hx | hx
          · exact hr x hx
          · simp at hx; subst hx; exact hrd
        rcases go_ok zs hb k (acc ++ [d]) (p + n) (by omega) hr2 (rise_snoc hs hd) with h2 | ⟨l, n2, h2, hl, hp2, hn2', hrl, hsl, m, hm, hf⟩
        · exact .inl h2
        · refine .inr ⟨l, n2, h2, by rw [hl]; simp; omega, by omega, hn2', hrl, hsl, d :: m, by rw [hm]; simp, ?_⟩
          rw [List.flatMap_cons, hf, hbs, ← List.drop_drop]
          have e1 : n2 - p = n + (n2 - (p + n)) := by omega
          rw [e1, List.take_add]
theorem all_cases (zs : List Int) (hb : ∀ c ∈ zs, 0 ≤ c ∧ c ≤ 255) : all zs = ([], 0, 20) ∨ all zs = ([], 0, 21) ∨
    ∃ (l : List Dt) (n : Nat), all zs = (l, (n : Int), 0) ∧ 1 ≤ n ∧ n ≤ zs.length ∧ put l = zs.take n := by
  unfold all
  rcases tak_cases zs hb with h | h | ⟨k, v, hk, hkl, hv0, hv1, h, hD⟩
  · rw [h]; exact .inl rfl
  · rw [h]; exact .inr (.inl rfl)
  · rw [h]
    simp only []
    rw [if_neg (by simp)]
    by_cases hv : 16 < v
    · rw [if_pos hv]; exact .inr (.inl rfl)
    · rw [if_neg hv]
      have e : ((k : Int) + 1).toNat = k + 1 := by omega
      rw [e]
      rcases go_ok zs hb v.toNat [] (k + 1) hkl (by simp) List.Pairwise.nil with (h2 | h2) | ⟨l, n, h2, hl, hp, hn, hr, hs, m, hm, hf⟩
      · exact .inl h2
      · exact .inr (.inl h2)
      · refine .inr (.inr ⟨l, n, h2, by omega, hn, ?_⟩)
        have hlm : l = m := by simpa using hm
        have hll : (l.length : Int) = v := by rw [hl]; simp; omega
        unfold put
        rw [if_pos ⟨(rises_iff l).2 ⟨hr, hs⟩, by rw [hl]; simp; omega⟩, hll, hD, hlm, hf]
        have e1 : (k + 1) + (n - (k + 1)) = n := by omega
        have e2 := List.take_add (l := zs) (i := k + 1) (j := n - (k + 1))
        rw [e1] at e2
        rw [e2]
theorem go_back (zs : List Int) (tail : List Int) : ∀ (m acc : List Dt) (p : Nat), zs.drop p = m.flatMap bytes ++ tail → (∀ d ∈ m, right d = true) → Rise (acc ++ m) →
    go zs m.length acc p = (acc ++ m, ((p + (m.flatMap bytes).length : Nat) : Int), 0)
  | [], acc, p, _, _, _ => by simp [go]
  | d :: m, acc, p, hz, hr, hs => by
    have hrd := hr d (by simp)
    have h1 : take (zs.drop p) = (d, ((bytes d).length : Int), 0) := by
      rw [hz, List.flatMap_cons, List.append_assoc]; exact take_back hrd _
    show go zs (m.length + 1) acc p = _
    unfold go
    rw [h1]
    simp only []
    rw [if_neg (by simp)]
    have hq : ¬ (acc ≠ [] ∧ less (acc.getLast?.getD zero) d = false) := by
      rintro ⟨hne, hl⟩
      obtain ⟨t, x, rfl⟩ : ∃ t x, acc = t ++ [x] := ⟨acc.dropLast, acc.getLast hne, (List.dropLast_concat_getLast hne).symm⟩
      simp at hl
      have := (List.pairwise_append.1 hs).2.2 x (by simp) d (by simp)
      rw [hl] at this; cases this
    rw [if_neg hq]
    have e : (((bytes d).length : Int)).toNat = (bytes d).length := by omega
    rw [e, go_back zs tail m (acc ++ [d]) (p + (bytes d).length) ?_ (fun x hx => hr x (by simp [hx])) (by simpa using hs)]
    · simp only [List.append_assoc, List.singleton_append, List.flatMap_cons, List.length_append]
      congr 2
      omega
    · rw [← List.drop_drop, hz, List.flatMap_cons, List.append_assoc, List.drop_left]
theorem all_back {l : List Dt} (h : rises l = true) (hl : l.length ≤ 16) (tail : List Int) : all (put l ++ tail) = (l, ((put l).length : Int), 0) := by
  obtain ⟨hr, hs⟩ := (rises_iff l).1 h
  have hp : put l = D (l.length : Int) ++ l.flatMap bytes := by unfold put; rw [if_pos ⟨h, hl⟩]
  unfold all
  rw [hp, List.append_assoc, tak_back (by omega) (by omega)]
  simp only []
  rw [if_neg (by simp), if_neg (by omega)]
  have e : ((l.length : Int)).toNat = l.length := by omega
  have e2 : (((D (l.length : Int)).length : Int)).toNat = (D (l.length : Int)).length := by omega
  rw [e, e2, go_back _ tail l [] _ (by rw [List.drop_left]) hr (by simpa using hs)]
  simp
end DotMath

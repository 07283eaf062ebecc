/-
  What the laws of layer 4 say of runes: clean twice, cut, fold, words, order. Plain mathematics, no program.
-/
import Derived.Test.YteockpllnhjooaaGreatDoorTxtMath
namespace TxtMath
set_option linter.unusedVariables false
set_option linter.unusedSimpArgs false

theorem white32 : white 32 = true := by decide

/- clean -/
def good : Bool → List Nat → Bool
  | _, [] => true
  | b, r :: t => if r = 32 then !b && good true t else !white r && !bare r && good false t

theorem good_true_false : ∀ l, good true l = true → good false l = true
  | [], _ => rfl
  | r :: t, h => by
    unfold good at h ⊢
    split
    · rename_i e; rw [if_pos e] at h; simp at h
    · rename_i e; rw [if_neg e] at h; exact h
theorem good_cleanGo : ∀ (l : List Nat) (g : Bool), good true (cleanGo g false l) = true ∧ good false (cleanGo g true l) = true
  | [], g => by simp [cleanGo, good]
  | r :: t, g => by
    have h1 := good_cleanGo t true
    have h2 := good_cleanGo t g
    have h3 := good_cleanGo t false
    simp only [cleanGo]
    split
    · exact h1
    · split
      · exact h2
      · rename_i hw hb
        have hr : r ≠ 32 := by intro e; subst e; exact hw white32
        have hw' : white r = false := by simpa using hw
        have hb' : bare r = false := by simpa using hb
        cases g <;> simp [good, hr, hw', hb', h3.2]
theorem good_clean (l : List Nat) : good true (clean l) = true := (good_cleanGo l false).1
theorem good_app : ∀ (p q : List Nat) (b : Bool), good b (p ++ q) = true → good b p = true
  | [], q, b, _ => by simp [good]
  | r :: t, q, b, h => by
    rw [List.cons_append] at h
    unfold good at h ⊢
    split
    · rename_i e; rw [if_pos e] at h; simp at h ⊢; exact ⟨h.1, good_app t q _ h.2⟩
    · rename_i e; rw [if_neg e] at h; simp at h ⊢; exact ⟨h.1, good_app t q _ h.2⟩
theorem last_cons {r : Nat} {t : List Nat} (h : (r :: t).getLast? ≠ some 32) : t.getLast? ≠ some 32 := by
  cases t with
  | nil => simp
  | cons a b => simpa [List.getLast?_cons_cons] using h
theorem clean_good : ∀ (p : List Nat), p.getLast? ≠ some 32 → (good false p = true → cleanGo false true p = p) ∧ (good true p = true → p ≠ [] → cleanGo true true p = 32 :: p)
  | [], _ => by simp [cleanGo]
  | r :: t, hl => by
    have ih := clean_good t (last_cons hl)
    constructor
    · intro h
      unfold good at h
      split at h
      · rename_i e; subst e
        simp at h
        have ht : t ≠ [] := by intro e; subst e; simp at hl
        unfold cleanGo
        rw [if_pos white32]
        exact ih.2 h ht
      · simp at h
        unfold cleanGo
        simp [h.1.1, h.1.2, ih.1 h.2]
    · intro h _
      unfold good at h
      split at h
      · simp at h
      · simp at h
        unfold cleanGo
        simp [h.1.1, h.1.2, ih.1 h.2]
theorem clean_of_good (p : List Nat) (h : good true p = true) (hl : p.getLast? ≠ some 32) : clean p = p := by
  cases p with
  | nil => rfl
  | cons r t =>
    unfold good at h
    split at h
    · simp at h
    · simp at h
      unfold clean cleanGo
      simp [h.1.1, h.1.2, (clean_good t (last_cons hl)).1 h.2]
theorem last_cleanGo : ∀ (l : List Nat) (g n : Bool), (cleanGo g n l).getLast? ≠ some 32
  | [], _, _ => by simp [cleanGo]
  | r :: t, g, n => by
    simp only [cleanGo]
    split
    · exact last_cleanGo t _ _
    · split
      · exact last_cleanGo t _ _
      · rename_i hw hb
        have hr : r ≠ 32 := by intro e; subst e; exact hw white32
        have h3 := last_cleanGo t false true
        have : (r :: cleanGo false true t).getLast? ≠ some 32 := by
          cases hc : cleanGo false true t with
          | nil => simp [hr]
          | cons a b => rw [hc] at h3; simpa [List.getLast?_cons_cons] using h3
        split
        · rw [List.singleton_append, List.getLast?_cons_cons]; exact this
        · simpa using this
theorem last_clean (l : List Nat) : (clean l).getLast? ≠ some 32 := last_cleanGo l _ _
theorem clean_clean (l : List Nat) : clean (clean l) = clean l := clean_of_good _ (good_clean l) (last_clean l)

/- a text and its clean form -/
theorem cleanB_twice (l : List Nat) : cleanB (cleanB l) = cleanB l := by
  show encs (clean (runes (cleanB l))) = _
  rw [runes_clean, clean_clean]; rfl
def stGo : Bool → Bool → List Nat → Bool × Bool
  | g, n, [] => (g, n)
  | g, n, r :: t => if white r then stGo true n t else if bare r then stGo g n t else stGo false true t
theorem cleanGo_app : ∀ (x y : List Nat) (g n : Bool), cleanGo g n (x ++ y) = cleanGo g n x ++ cleanGo (stGo g n x).1 (stGo g n x).2 y
  | [], y, g, n => by simp [cleanGo, stGo]
  | r :: t, y, g, n => by
    simp only [cleanGo, stGo, List.cons_append]
    split
    · exact cleanGo_app t y _ _
    · split
      · exact cleanGo_app t y _ _
      · rw [cleanGo_app t y]; simp
theorem stGo_ne : ∀ (x : List Nat) (g n : Bool), (stGo g n x).2 = (n || !(cleanGo g n x).isEmpty)
  | [], g, n => by simp [cleanGo, stGo]
  | r :: t, g, n => by
    simp only [cleanGo, stGo]
    split
    · exact stGo_ne t _ _
    · split
      · exact stGo_ne t _ _
      · rw [stGo_ne t]; simp
theorem cleanGo_idle : ∀ (y : List Nat) (g g' : Bool), cleanGo g false y = cleanGo g' false y
  | [], _, _ => by simp [cleanGo]
  | r :: t, g, g' => by
    simp only [cleanGo]
    split
    · rfl
    · split
      · exact cleanGo_idle t g g'
      · simp
theorem cleanGo_gap : ∀ (y : List Nat) (g : Bool), cleanGo true true y = (if cleanGo g false y = [] then [] else 32 :: cleanGo g false y)
  | [], _ => by simp [cleanGo]
  | r :: t, g => by
    simp only [cleanGo]
    split
    · exact cleanGo_gap t true
    · split
      · exact cleanGo_gap t g
      · simp
def bothR (c d : List Nat) : List Nat := if c = [] ∨ d = [] then c ++ d else c ++ (32 :: d)
theorem clean_both (x y : List Nat) : clean (x ++ (32 :: y)) = bothR (clean x) (clean y) := by
  unfold clean bothR
  rw [cleanGo_app]
  have h := stGo_ne x false false
  generalize stGo false false x = st at *
  obtain ⟨g, n⟩ := st
  simp only at h ⊢
  rw [show cleanGo g n (32 :: y) = cleanGo true n y by simp [cleanGo, white32], h]
  cases hx : cleanGo false false x with
  | nil => simp [cleanGo_idle y true false]
  | cons a b =>
    simp [cleanGo_gap y false]
    split <;> simp_all
theorem encs_eq_nil (l : List Nat) : encs l = [] ↔ l = [] := by
  constructor
  · intro h
    have := encs_len_ge l
    rw [h] at this
    exact List.eq_nil_of_length_eq_zero (by simpa using this)
  · rintro rfl; rfl
theorem cleanB_both (a b : List Nat) : cleanB (a ++ (32 :: b)) = if cleanB a = [] ∨ cleanB b = [] then cleanB a ++ cleanB b else cleanB a ++ (32 :: cleanB b) := by
  have e : cleanB (a ++ (32 :: b)) = encs (bothR (clean (runes a)) (clean (runes b))) := by
    unfold cleanB; rw [runes_blank, clean_both]
  rw [e]
  unfold bothR cleanB
  simp only [encs_eq_nil]
  split
  · rw [encs_append]
  · rw [encs_append, encs_cons]; simp [enc]

/- cut -/
theorem good_last : ∀ (p : List Nat) (b : Bool), good b (p ++ [32]) = true → p.getLast? ≠ some 32
  | [], _, _ => by simp
  | [r], b, h => by
    intro e
    have e' : r = 32 := by simpa using e
    subst e'
    simp [good] at h
  | r :: s :: t, b, h => by
    rw [List.getLast?_cons_cons]
    rw [List.cons_append] at h
    unfold good at h
    split at h
    · simp only [Bool.and_eq_true] at h; exact good_last (s :: t) true h.2
    · simp only [Bool.and_eq_true] at h; exact good_last (s :: t) false h.2
theorem trim_prefix (p : List Nat) : ∃ q, p = trimR p ++ q := by
  unfold trimR
  split
  · rename_i h
    exact ⟨[32], by
      have hne : p ≠ [] := by intro e; subst e; simp at h
      have h2 : p.getLast hne = 32 := by rw [List.getLast?_eq_some_getLast hne] at h; exact Option.some.inj h
      have := List.dropLast_concat_getLast hne
      rw [h2] at this; exact this.symm⟩
  · exact ⟨[], by simp⟩
theorem trim_last (p : List Nat) (b : Bool) (h : good b p = true) : (trimR p).getLast? ≠ some 32 := by
  unfold trimR
  split
  · rename_i hl
    have hne : p ≠ [] := by intro e; subst e; simp at hl
    have h2 : p.getLast hne = 32 := by rw [List.getLast?_eq_some_getLast hne] at hl; exact Option.some.inj hl
    have h3 := List.dropLast_concat_getLast hne
    rw [h2] at h3
    rw [← h3] at h
    have := good_last _ b h
    exact this
  · assumption
theorem trim_fix (p : List Nat) (h : p.getLast? ≠ some 32) : trimR p = p := by unfold trimR; rw [if_neg h]
theorem cut_prefix (n : Int) (l : List Nat) : ∃ q, l = cutR n l ++ q := by
  obtain ⟨q, hq⟩ := trim_prefix (l.take n.toNat)
  refine ⟨q ++ l.drop n.toNat, ?_⟩
  unfold cutR
  rw [← List.append_assoc, ← hq, List.take_append_drop]
theorem cut_len (n : Int) (l : List Nat) : (cutR n l).length ≤ n.toNat := by
  obtain ⟨q, hq⟩ := trim_prefix (l.take n.toNat)
  have h := congrArg List.length hq
  simp at h
  unfold cutR; omega
theorem cut_good (n : Int) (l : List Nat) : good true (cutR n (clean l)) = true ∧ (cutR n (clean l)).getLast? ≠ some 32 := by
  obtain ⟨q, hq⟩ := cut_prefix n (clean l)
  have hg := good_clean l
  constructor
  · rw [hq] at hg; exact good_app _ _ _ hg
  · unfold cutR
    refine trim_last _ true ?_
    have : clean l = (clean l).take n.toNat ++ (clean l).drop n.toNat := (List.take_append_drop _ _).symm
    rw [this] at hg
    exact good_app _ _ _ hg
theorem clean_cut (n : Int) (l : List Nat) : clean (cutR n (clean l)) = cutR n (clean l) := clean_of_good _ (cut_good n l).1 (cut_good n l).2
theorem cut_cut (n : Int) (l : List Nat) : cutR n (cutR n (clean l)) = cutR n (clean l) := by
  show trimR ((cutR n (clean l)).take n.toNat) = _
  rw [List.take_of_length_le (cut_len n _), trim_fix _ (cut_good n l).2]
theorem cut_all (n : Int) (l : List Nat) (h : ((clean l).length : Int) ≤ n) : cutR n (clean l) = clean l := by
  unfold cutR
  rw [List.take_of_length_le (by omega), trim_fix _ (last_clean l)]
theorem cut_ok (n : Int) (s : List Nat) : ∀ r ∈ cutR n (clean (runes s)), valid r = true := by
  intro r hr
  obtain ⟨q, hq⟩ := cut_prefix n (clean (runes s))
  exact clean_ok s r (by rw [hq]; simp [hr])
theorem runes_cut (s : List Nat) (n : Int) : runes (cutB s n) = cutR n (clean (runes s)) := runes_encs _ (cut_ok n s)
theorem cutB_clean (s : List Nat) (n : Int) : cleanB (cutB s n) = cutB s n := by
  show encs (clean (runes (cutB s n))) = _
  rw [runes_cut, clean_cut]; rfl
theorem cutB_right (s : List Nat) (n : Int) (m : Int) (hm : m = max n 0) : rightB (cutB s n) m = true := by
  unfold rightB
  rw [cutB_clean, runes_cut]
  have := cut_len n (clean (runes s))
  simp; omega
theorem cutB_prefix (s : List Nat) (n : Int) : ∃ q, cleanB s = cutB s n ++ q := by
  obtain ⟨q, hq⟩ := cut_prefix n (clean (runes s))
  refine ⟨encs q, ?_⟩
  unfold cutB cleanB
  rw [← encs_append, ← hq]
theorem cutB_twice (s : List Nat) (n : Int) : cutB (cutB s n) n = cutB s n := by
  show encs (cutR n (clean (runes (cutB s n)))) = _
  rw [runes_cut, clean_cut, cut_cut]; rfl
theorem cutB_all (s : List Nat) : cutB s ((runes (cleanB s)).length : Nat) = cleanB s := by
  unfold cutB
  rw [cut_all _ _ (by rw [runes_clean]; omega)]; rfl

/- fold -/
theorem low_cases (r : Nat) : (low r = r + 32 ∧ ((65 ≤ r ∧ r ≤ 90) ∨ (192 ≤ r ∧ r ≤ 222 ∧ r ≠ 215) ∨ (913 ≤ r ∧ r ≤ 939 ∧ r ≠ 930) ∨ (1040 ≤ r ∧ r ≤ 1071))) ∨ (low r = r + 80 ∧ 1024 ≤ r ∧ r ≤ 1039) ∨ low r = r := by
  unfold low
  split
  · rename_i h; simp at h; left; refine ⟨rfl, ?_⟩; omega
  · split
    · rename_i h; simp at h; right; left; exact ⟨rfl, h⟩
    · right; right; rfl
theorem low_low (r : Nat) : low (low r) = low r := by
  rcases low_cases r with ⟨h, c⟩ | ⟨h, c⟩ | h
  · rw [h]; unfold low
    rw [if_neg (by simp; omega), if_neg (by simp; omega)]
  · rw [h]; unfold low
    rw [if_neg (by simp; omega), if_neg (by simp; omega)]
  · rw [h, h]
theorem white_low (r : Nat) : white (low r) = white r := by
  rcases low_cases r with ⟨h, c⟩ | ⟨h, c⟩ | h
  · rw [h]
    have h1 : white (r + 32) = false := by simp [white]; omega
    have h2 : white r = false := by simp [white]; omega
    rw [h1, h2]
  · rw [h]
    have h1 : white (r + 80) = false := by simp [white]; omega
    have h2 : white r = false := by simp [white]; omega
    rw [h1, h2]
  · rw [h]
theorem bare_low (r : Nat) : bare (low r) = bare r := by
  unfold bare
  rw [white_low]
  rcases low_cases r with ⟨h, c⟩ | ⟨h, c⟩ | h
  · rw [h]
    have h1 : (decide (r + 32 < 32) || (decide (127 ≤ r + 32) && decide (r + 32 ≤ 159))) = false := by simp; omega
    have h2 : (decide (r < 32) || (decide (127 ≤ r) && decide (r ≤ 159))) = false := by simp; omega
    rw [h1, h2]
  · rw [h]
    have h1 : (decide (r + 80 < 32) || (decide (127 ≤ r + 80) && decide (r + 80 ≤ 159))) = false := by simp; omega
    have h2 : (decide (r < 32) || (decide (127 ≤ r) && decide (r ≤ 159))) = false := by simp; omega
    rw [h1, h2]
  · rw [h]
theorem cleanGo_low : ∀ (l : List Nat) (g n : Bool), cleanGo g n (l.map low) = (cleanGo g n l).map low
  | [], _, _ => by simp [cleanGo]
  | r :: t, g, n => by
    simp only [List.map_cons, cleanGo, white_low, bare_low]
    split
    · exact cleanGo_low t _ _
    · split
      · exact cleanGo_low t _ _
      · rw [cleanGo_low t]
        split
        · simp; decide
        · simp
theorem map_low_low (l : List Nat) : (l.map low).map low = l.map low := by simp [low_low]
theorem foldR_fold (l : List Nat) : foldR (foldB l) = foldR l := by
  unfold foldR; rw [runes_fold]; exact map_low_low _
theorem foldB_twice (l : List Nat) : foldB (foldB l) = foldB l := by show encs (foldR (foldB l)) = _; rw [foldR_fold]; rfl
theorem fold_len (l : List Nat) : (runes (foldB l)).length = (runes l).length := by rw [runes_fold]; simp [foldR]
theorem fold_clean (l : List Nat) : cleanB (foldB l) = foldB (cleanB l) := by
  show encs (clean (runes (foldB l))) = encs ((runes (cleanB l)).map low)
  rw [runes_fold, runes_clean]
  exact congrArg encs (cleanGo_low _ _ _)

/- words -/
theorem words_of : ∀ (l cur : List Nat), (∀ r ∈ cur, letter r = true) → ∀ w ∈ wordsGo cur l, w ≠ [] ∧ (∀ r ∈ w, letter r = true) ∧ ∀ r ∈ w, r ∈ cur ∨ r ∈ l
  | [], cur, hc => by
    intro w hw
    unfold wordsGo at hw
    split at hw
    · simp at hw
    · simp at hw; subst hw; exact ⟨by assumption, hc, fun r hr => .inl hr⟩
  | r :: t, cur, hc => by
    intro w hw
    unfold wordsGo at hw
    split at hw
    · rename_i hl
      obtain ⟨h1, h2, h3⟩ := words_of t (cur ++ [r]) (by intro x hx; simp at hx; rcases hx with hx | rfl; exact hc x hx; exact hl) w hw
      refine ⟨h1, h2, fun x hx => ?_⟩
      have := h3 x hx
      simp at this ⊢
      rcases this with (h | h) | h
      · exact .inl h
      · exact .inr (.inl h)
      · exact .inr (.inr h)
    · rcases List.mem_append.1 hw with hw | hw
      · split at hw
        · simp at hw
        · simp at hw; subst hw; exact ⟨by assumption, hc, fun r hr => .inl hr⟩
      · obtain ⟨h1, h2, h3⟩ := words_of t [] (by simp) w hw
        refine ⟨h1, h2, fun x hx => ?_⟩
        have := h3 x hx
        simp at this ⊢
        exact .inr (.inr this)
theorem words_run : ∀ (w cur t : List Nat), (∀ r ∈ w, letter r = true) → wordsGo cur (w ++ t) = wordsGo (cur ++ w) t
  | [], cur, t, _ => by simp
  | r :: w, cur, t, h => by
    rw [List.cons_append, wordsGo, if_pos (h r (by simp)), words_run w _ t (fun x hx => h x (by simp [hx]))]
    simp
theorem letter32 : letter 32 = false := by decide
theorem words_back : ∀ (ws : List (List Nat)) (cur : List Nat), (∀ w ∈ ws, w ≠ [] ∧ ∀ r ∈ w, letter r = true) → wordsGo cur (ws.flatMap fun w => 32 :: w) = (if cur = [] then [] else [cur]) ++ ws
  | [], cur, _ => by simp [wordsGo]
  | w :: ws, cur, h => by
    have hw := h w (by simp)
    simp only [List.flatMap_cons, List.cons_append]
    rw [wordsGo, letter32]
    simp only [Bool.false_eq_true, if_false]
    rw [words_run w [] _ hw.2, words_back ws _ (fun x hx => h x (by simp [hx]))]
    simp [hw.1]
theorem words_last (l : List Nat) : ∀ cur, wordsGo cur (l ++ [32]) = wordsGo cur l := by
  induction l with
  | nil => intro cur; simp [wordsGo, letter32]
  | cons r t ih => intro cur; simp only [List.cons_append, wordsGo, ih]
/-- All words with blanks ahead. -/
def joinB (ws : List (List Nat)) : List Nat := ws.flatMap fun w => 32 :: w
theorem encs_join : ∀ ws : List (List Nat), encs (ws.flatMap fun w => 32 :: w) = joinB (ws.map encs)
  | [] => rfl
  | w :: ws => by
    have := encs_join ws
    simp only [List.flatMap_cons, List.map_cons, joinB] at this ⊢
    rw [encs_append, encs_cons, this]
    simp [enc]
theorem wordsR_ok (s : List Nat) : ∀ w ∈ wordsR (foldR s), w ≠ [] ∧ (∀ r ∈ w, letter r = true) ∧ ∀ r ∈ w, r ∈ foldR s := by
  intro w hw
  have := words_of (foldR s) [] (by simp) w hw
  refine ⟨this.1, this.2.1, fun r hr => ?_⟩
  simpa using this.2.2 r hr
theorem words_all (s : List Nat) : wordsB (joinB (wordsB s)) = wordsB s := by
  unfold wordsB
  rw [← encs_join]
  have hok := wordsR_ok s
  generalize hW : wordsR (foldR s) = W at *
  have hmem : ∀ r ∈ W.flatMap (fun w => 32 :: w), r = 32 ∨ r ∈ foldR s := by
    intro r hr
    simp only [List.mem_flatMap] at hr
    obtain ⟨w, hw, hr⟩ := hr
    rcases List.mem_cons.1 hr with h | h
    · exact .inl h
    · exact .inr ((hok w hw).2.2 r h)
  have hv : ∀ r ∈ W.flatMap (fun w => 32 :: w), valid r = true := by
    intro r hr
    rcases hmem r hr with rfl | h
    · decide
    · exact fold_ok s r h
  have hf : foldR (encs (W.flatMap fun w => 32 :: w)) = W.flatMap fun w => 32 :: w := by
    unfold foldR
    rw [runes_encs _ hv]
    conv => rhs; rw [← List.map_id (W.flatMap fun w => 32 :: w)]
    apply List.map_congr_left
    intro r hr
    rcases hmem r hr with rfl | h
    · decide
    · simp only [foldR, List.mem_map] at h
      obtain ⟨x, _, rfl⟩ := h
      exact low_low x
  rw [hf]
  unfold wordsR
  rw [words_back W [] (fun w hw => ⟨(hok w hw).1, (hok w hw).2.1⟩)]
  simp
theorem words_fold (s : List Nat) : wordsB (foldB s) = wordsB s := by unfold wordsB; rw [foldR_fold]

/- order -/
theorem lex_irrefl : ∀ a, lexLt a a = false
  | [] => rfl
  | x :: a => by simp [lexLt, lex_irrefl a]
theorem lex_tri : ∀ a b, lexLt a b = false → lexLt b a = false → a = b
  | [], [], _, _ => rfl
  | [], y :: b, h, _ => by simp [lexLt] at h
  | x :: a, [], _, h => by simp [lexLt] at h
  | x :: a, y :: b, h1, h2 => by
    unfold lexLt at h1 h2
    by_cases e : x = y
    · subst e; simp at h1 h2; rw [lex_tri a b h1 h2]
    · rw [if_neg e] at h1; rw [if_neg (Ne.symm e)] at h2; simp at h1 h2; omega
theorem lex_trans : ∀ a b c, lexLt a b = true → lexLt b c = true → lexLt a c = true
  | _, [], _, h, _ => by simp [lexLt] at h
  | _, _ :: _, [], _, h => by simp [lexLt] at h
  | [], y :: b, z :: c, _, _ => by simp [lexLt]
  | x :: a, y :: b, z :: c, h1, h2 => by
    unfold lexLt at h1 h2 ⊢
    by_cases e1 : x = y
    · subst e1
      by_cases e2 : x = z
      · subst e2; simp at h1 h2 ⊢; exact lex_trans a b c h1 h2
      · rw [if_neg e2] at h2; simp at h2; simp [e2, h2]
    · rw [if_neg e1] at h1
      simp at h1
      by_cases e2 : y = z
      · subst e2; simp [e1, h1]
      · rw [if_neg e2] at h2; simp at h2
        have : x ≠ z := by omega
        simp [this]; omega
theorem lex_asym (a b : List Nat) (h : lexLt a b = true) : lexLt b a = false := by
  cases h2 : lexLt b a with
  | false => rfl
  | true => have := lex_trans a b a h h2; rw [lex_irrefl] at this; exact absurd this (by decide)
theorem less_asym (a b : List Nat) (h : lessB a b = true) : lessB b a = false := by
  simp [lessB] at h ⊢
  rcases h with h | ⟨e, h⟩
  · refine ⟨lex_asym _ _ h, fun e => ?_⟩
    rw [e, lex_irrefl] at h; exact absurd h (by decide)
  · rw [e]
    exact ⟨lex_irrefl _, fun _ => lex_asym _ _ h⟩
theorem less_tri (a b : List Nat) (h1 : lessB a b = false) (h2 : lessB b a = false) : a = b := by
  simp [lessB] at h1 h2
  have e := lex_tri _ _ h1.1 h2.1
  exact lex_tri a b (h1.2 e) (h2.2 e.symm)
theorem less_trans (a b c : List Nat) (h1 : lessB a b = true) (h2 : lessB b c = true) : lessB a c = true := by
  simp [lessB] at h1 h2 ⊢
  rcases h1 with h1 | ⟨e1, h1⟩
  · left
    rcases h2 with h2 | ⟨e2, h2⟩
    · exact lex_trans _ _ _ h1 h2
    · rw [← e2]; exact h1
  · rcases h2 with h2 | ⟨e2, h2⟩
    · left; rw [e1]; exact h2
    · right; exact ⟨e1.trans e2, lex_trans _ _ _ h1 h2⟩
end TxtMath

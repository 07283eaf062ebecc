/-
  Texts as lists of bytes and of runes: reading, writing, making clean, folding, words, order. Plain mathematics, no program.
-/
namespace TxtMath
set_option linter.unusedVariables false
set_option linter.unusedSimpArgs false

def valid (r : Nat) : Bool := decide (r < 55296) || (decide (57344 ≤ r) && decide (r ≤ 1114111))
def byteAt (l : List Nat) (k : Nat) : Nat := l[k]?.getD 0
def contAt (l : List Nat) (k : Nat) : Bool := decide (k < l.length) && byteAt l k / 64 == 2

/-- The first rune, and how many bytes it has. -/
def dec (l : List Nat) : Nat × Nat :=
  if byteAt l 0 < 128 then (byteAt l 0, 1)
  else if byteAt l 0 / 32 == 6 && contAt l 1 then
    if (byteAt l 0 % 32) * 64 + byteAt l 1 % 64 ≥ 128 then ((byteAt l 0 % 32) * 64 + byteAt l 1 % 64, 2) else (65533, 1)
  else if byteAt l 0 / 16 == 14 && contAt l 1 && contAt l 2 then
    if decide ((byteAt l 0 % 16) * 4096 + (byteAt l 1 % 64) * 64 + byteAt l 2 % 64 ≥ 2048) && valid ((byteAt l 0 % 16) * 4096 + (byteAt l 1 % 64) * 64 + byteAt l 2 % 64) then ((byteAt l 0 % 16) * 4096 + (byteAt l 1 % 64) * 64 + byteAt l 2 % 64, 3) else (65533, 1)
  else if byteAt l 0 / 8 == 30 && contAt l 1 && contAt l 2 && contAt l 3 then
    if decide ((byteAt l 0 % 8) * 262144 + (byteAt l 1 % 64) * 4096 + (byteAt l 2 % 64) * 64 + byteAt l 3 % 64 ≥ 65536) && valid ((byteAt l 0 % 8) * 262144 + (byteAt l 1 % 64) * 4096 + (byteAt l 2 % 64) * 64 + byteAt l 3 % 64) then ((byteAt l 0 % 8) * 262144 + (byteAt l 1 % 64) * 4096 + (byteAt l 2 % 64) * 64 + byteAt l 3 % 64, 4) else (65533, 1)
  else (65533, 1)

def enc (r : Nat) : List Nat :=
  if r < 128 then [r]
  else if r < 2048 then [192 + r / 64, 128 + r % 64]
  else if r < 65536 then [224 + r / 4096, 128 + r / 64 % 64, 128 + r % 64]
  else [240 + r / 262144, 128 + r / 4096 % 64, 128 + r / 64 % 64, 128 + r % 64]
def encs (l : List Nat) : List Nat := l.flatMap enc

theorem encs_nil : encs [] = [] := rfl
theorem encs_cons (r : Nat) (l : List Nat) : encs (r :: l) = enc r ++ encs l := by simp [encs]
theorem encs_append (a b : List Nat) : encs (a ++ b) = encs a ++ encs b := by simp [encs]
theorem encs_one (r : Nat) : encs [r] = enc r := by simp [encs]
theorem enc_len (r : Nat) : 1 ≤ (enc r).length ∧ (enc r).length ≤ 4 := by
  unfold enc; repeat' split
  all_goals simp
theorem enc_lt (r : Nat) (h : r ≤ 1114111) : ∀ c ∈ enc r, c < 256 := by
  unfold enc; intro c hc; repeat' split at hc
  all_goals simp at hc; omega
theorem encs_lt : ∀ l : List Nat, (∀ r ∈ l, valid r = true) → ∀ c ∈ encs l, c < 256 := by
  intro l h c hc
  simp only [encs, List.mem_flatMap] at hc
  obtain ⟨r, hr, hc⟩ := hc
  have := h r hr
  exact enc_lt r (by simp [valid] at this; omega) c hc
theorem encs_len_le : ∀ l : List Nat, (encs l).length ≤ 4 * l.length
  | [] => by simp [encs]
  | r :: l => by
    have := encs_len_le l
    have := enc_len r
    rw [encs_cons]; simp; omega
theorem encs_len_ge : ∀ l : List Nat, l.length ≤ (encs l).length
  | [] => by simp [encs]
  | r :: l => by
    have := encs_len_ge l
    have := enc_len r
    rw [encs_cons]; simp; omega

theorem dec_pos (l : List Nat) : 1 ≤ (dec l).2 ∧ (dec l).2 ≤ 4 := by
  unfold dec; repeat' split
  all_goals simp
theorem dec_le (l : List Nat) (h : l ≠ []) : (dec l).2 ≤ l.length := by
  have : 1 ≤ l.length := by cases l with | nil => exact absurd rfl h | cons _ _ => simp
  unfold dec; repeat' split
  all_goals simp_all [contAt]
  all_goals omega
theorem dec_valid (l : List Nat) : valid (dec l).1 = true := by
  unfold dec; repeat' split
  all_goals simp_all [valid]
  all_goals omega

theorem valid_le {r : Nat} (h : valid r = true) : r ≤ 1114111 := by simp [valid] at h; omega

/-- What is written is read. -/
theorem dec_enc (r : Nat) (t : List Nat) (h : valid r = true) : dec (enc r ++ t) = (r, (enc r).length) := by
  have hv : r < 55296 ∨ (57344 ≤ r ∧ r ≤ 1114111) := by simpa [valid] using h
  obtain ⟨a, ha⟩ : ∃ a, a = r / 64 := ⟨_, rfl⟩
  obtain ⟨a2, ha2⟩ : ∃ a2, a2 = r / 4096 := ⟨_, rfl⟩
  obtain ⟨a3, ha3⟩ : ∃ a3, a3 = r / 262144 := ⟨_, rfl⟩
  obtain ⟨m, hm⟩ : ∃ m, m = r % 64 := ⟨_, rfl⟩
  obtain ⟨m2, hm2⟩ : ∃ m2, m2 = r / 64 % 64 := ⟨_, rfl⟩
  obtain ⟨m3, hm3⟩ : ∃ m3, m3 = r / 4096 % 64 := ⟨_, rfl⟩
  unfold enc
  rw [← hm2, ← hm3]; simp only [← ha, ← ha2, ← ha3, ← hm]
  split
  · rename_i h0
    unfold dec
    rw [show byteAt ([r] ++ t) 0 = r from rfl, if_pos h0]
    rfl
  · split
    · obtain ⟨l, hl⟩ : ∃ l, l = [192 + a, 128 + m] ++ t := ⟨_, rfl⟩
      have b0 : byteAt l 0 = 192 + a := by rw [hl]; rfl
      have b1 : byteAt l 1 = 128 + m := by rw [hl]; rfl
      have c1 : contAt l 1 = true := by unfold contAt; rw [b1, hl]; simp; omega
      rw [← hl]
      unfold dec
      simp only [b0, b1, c1]
      rw [if_neg (by omega), if_pos (by simp; omega), if_pos (by omega)]
      refine Prod.ext ?_ rfl
      show (192 + a) % 32 * 64 + (128 + m) % 64 = r
      omega
    · split
      · obtain ⟨l, hl⟩ : ∃ l, l = [224 + a2, 128 + m2, 128 + m] ++ t := ⟨_, rfl⟩
        have b0 : byteAt l 0 = 224 + a2 := by rw [hl]; rfl
        have b1 : byteAt l 1 = 128 + m2 := by rw [hl]; rfl
        have b2 : byteAt l 2 = 128 + m := by rw [hl]; rfl
        have c1 : contAt l 1 = true := by unfold contAt; rw [b1, hl]; simp; omega
        have c2 : contAt l 2 = true := by unfold contAt; rw [b2, hl]; simp; omega
        have hr : (224 + a2) % 16 * 4096 + (128 + m2) % 64 * 64 + (128 + m) % 64 = r := by omega
        rw [← hl]
        unfold dec
        simp only [b0, b1, b2, c1, c2, hr, h]
        rw [if_neg (by omega), if_neg (by simp; omega), if_pos (by simp; omega), if_pos (by simp; omega)]
        rfl
      · obtain ⟨l, hl⟩ : ∃ l, l = [240 + a3, 128 + m3, 128 + m2, 128 + m] ++ t := ⟨_, rfl⟩
        have b0 : byteAt l 0 = 240 + a3 := by rw [hl]; rfl
        have b1 : byteAt l 1 = 128 + m3 := by rw [hl]; rfl
        have b2 : byteAt l 2 = 128 + m2 := by rw [hl]; rfl
        have b3 : byteAt l 3 = 128 + m := by rw [hl]; rfl
        have c1 : contAt l 1 = true := by unfold contAt; rw [b1, hl]; simp; omega
        have c2 : contAt l 2 = true := by unfold contAt; rw [b2, hl]; simp; omega
        have c3 : contAt l 3 = true := by unfold contAt; rw [b3, hl]; simp; omega
        have hr : (240 + a3) % 8 * 262144 + (128 + m3) % 64 * 4096 + (128 + m2) % 64 * 64 + (128 + m) % 64 = r := by omega
        rw [← hl]
        unfold dec
        simp only [b0, b1, b2, b3, c1, c2, c3, hr, h]
        rw [if_neg (by omega), if_neg (by simp; omega), if_neg (by simp; omega), if_pos (by simp; omega), if_pos (by simp; omega)]
        rfl

/-- Behind a text, what does not begin with a byte that goes on changes nothing. -/
theorem dec_app (l t : List Nat) (hl : l ≠ []) (ht : ∀ b, t[0]? = some b → b / 64 ≠ 2) : dec (l ++ t) = dec l := by
  have hpos : 0 < l.length := by cases l with | nil => exact absurd rfl hl | cons _ _ => simp
  have hb : ∀ k, k < l.length → byteAt (l ++ t) k = byteAt l k := by
    intro k hk; simp [byteAt, List.getElem?_append_left hk]
  have hc : ∀ k, k ≤ l.length → contAt (l ++ t) k = contAt l k := by
    intro k hk
    rcases Nat.lt_or_ge k l.length with h | h
    · have h' : k < (l ++ t).length := by simp; omega
      simp only [contAt, hb k h, h, h']
    · have e : k = l.length := by omega
      subst e
      have : contAt l l.length = false := by simp [contAt]
      rw [this]
      cases t with
      | nil => simp [contAt]
      | cons b t => have := ht b (by simp); simp [contAt, byteAt, this]
  have h0 := hb 0 hpos
  have c1 := hc 1 (by omega)
  by_cases k1 : contAt l 1 = true
  · have l1 : 1 < l.length := by simp [contAt] at k1; exact k1.1
    have b1 := hb 1 l1
    have c2 := hc 2 (by omega)
    by_cases k2 : contAt l 2 = true
    · have l2 : 2 < l.length := by simp [contAt] at k2; exact k2.1
      have b2 := hb 2 l2
      have c3 := hc 3 (by omega)
      by_cases k3 : contAt l 3 = true
      · have l3 : 3 < l.length := by simp [contAt] at k3; exact k3.1
        have b3 := hb 3 l3
        unfold dec
        simp only [h0, b1, b2, b3, c1, c2, c3]
      · unfold dec
        simp only [h0, b1, b2, c1, c2, c3, Bool.not_eq_true _ ▸ k3]
        simp [k3]
    · unfold dec
      simp only [h0, b1, c1, c2]
      simp [k2]
  · unfold dec
    simp only [h0, c1]
    simp [k1]

/-- The runes of a text, its first k bytes passed over. -/
def runesS : Nat → List Nat → List Nat
  | _, [] => []
  | k + 1, _ :: t => runesS k t
  | 0, b :: t => (dec (b :: t)).1 :: runesS ((dec (b :: t)).2 - 1) t
def runes (l : List Nat) : List Nat := runesS 0 l
theorem runesS_drop : ∀ (k : Nat) (l : List Nat), runesS k l = runes (l.drop k)
  | 0, l => by simp [runes]
  | k + 1, [] => by simp [runes, runesS]
  | k + 1, b :: t => by simp only [runesS, List.drop_succ_cons]; exact runesS_drop k t
theorem runes_nil : runes [] = [] := rfl
theorem runes_step (l : List Nat) (h : l ≠ []) : runes l = (dec l).1 :: runes (l.drop (dec l).2) := by
  cases l with
  | nil => exact absurd rfl h
  | cons b t =>
    have := (dec_pos (b :: t)).1
    obtain ⟨n, hn⟩ : ∃ n, (dec (b :: t)).2 = n + 1 := ⟨(dec (b :: t)).2 - 1, by omega⟩
    conv => lhs; unfold runes runesS
    rw [runesS_drop, hn]
    simp
theorem runes_at (l : List Nat) (pos : Nat) (h : pos < l.length) : runes (l.drop pos) = (dec (l.drop pos)).1 :: runes (l.drop (pos + (dec (l.drop pos)).2)) := by
  rw [runes_step (l.drop pos) (by intro e; have := congrArg List.length e; simp at this; omega), List.drop_drop]
theorem runes_end (l : List Nat) (pos : Nat) (h : ¬ pos < l.length) : runes (l.drop pos) = [] := by
  rw [List.drop_eq_nil_of_le (by omega)]; rfl
theorem runes_valid : ∀ (n : Nat) (l : List Nat), l.length ≤ n → ∀ r ∈ runes l, valid r = true
  | 0, l, h => by have : l = [] := List.eq_nil_of_length_eq_zero (by omega); subst this; simp [runes, runesS]
  | n + 1, l, h => by
    by_cases e : l = []
    · subst e; simp [runes, runesS]
    · rw [runes_step l e]
      intro r hr
      have hp := dec_pos l
      rcases List.mem_cons.1 hr with rfl | hr
      · exact dec_valid l
      · exact runes_valid n _ (by simp; omega) r hr
theorem runes_ok (l : List Nat) : ∀ r ∈ runes l, valid r = true := runes_valid l.length l (Nat.le_refl _)
theorem runes_len : ∀ (n : Nat) (l : List Nat), l.length ≤ n → (runes l).length ≤ l.length
  | 0, l, h => by have : l = [] := List.eq_nil_of_length_eq_zero (by omega); subst this; simp [runes, runesS]
  | n + 1, l, h => by
    by_cases e : l = []
    · subst e; simp [runes, runesS]
    · have hd := dec_le l e
      have hp := dec_pos l
      rw [runes_step l e]
      have := runes_len n (l.drop (dec l).2) (by simp; omega)
      simp at this ⊢; omega
theorem runes_len_le (l : List Nat) : (runes l).length ≤ l.length := runes_len l.length l (Nat.le_refl _)

theorem runes_enc (r : Nat) (t : List Nat) (h : valid r = true) : runes (enc r ++ t) = r :: runes t := by
  have hne : enc r ++ t ≠ [] := by have h1 := (enc_len r).1; intro e; have h2 := congrArg List.length e; rw [List.length_append] at h2; simp only [List.length_nil] at h2; omega
  rw [runes_step _ hne, dec_enc r t h]
  simp
theorem runes_encs_app : ∀ (l t : List Nat), (∀ r ∈ l, valid r = true) → runes (encs l ++ t) = l ++ runes t
  | [], t, _ => by simp [encs]
  | r :: l, t, h => by
    rw [encs_cons, List.append_assoc, runes_enc r _ (h r (by simp)), runes_encs_app l t (fun x hx => h x (by simp [hx]))]
    rfl
theorem runes_encs (l : List Nat) (h : ∀ r ∈ l, valid r = true) : runes (encs l) = l := by
  have := runes_encs_app l [] h
  simpa [runes_nil] using this
/-- Two texts, the second of which does not begin with a byte that goes on. -/
theorem runes_app : ∀ (n : Nat) (l t : List Nat), l.length ≤ n → (∀ b, t[0]? = some b → b / 64 ≠ 2) → runes (l ++ t) = runes l ++ runes t
  | 0, l, t, h, ht => by have : l = [] := List.eq_nil_of_length_eq_zero (by omega); subst this; simp [runes_nil]
  | n + 1, l, t, h, ht => by
    by_cases e : l = []
    · subst e; simp [runes_nil]
    · have hd := dec_le l e
      have hp := dec_pos l
      rw [runes_step l e, runes_step (l ++ t) (by simp [e]), dec_app l t e ht, List.drop_append_of_le_length hd, runes_app n _ t (by simp; omega) ht]
      rfl
theorem runes_blank (a b : List Nat) : runes (a ++ (32 :: b)) = runes a ++ (32 :: runes b) := by
  rw [runes_app a.length a (32 :: b) (Nat.le_refl _) (by simp), runes_step (32 :: b) (by simp)]
  have : dec (32 :: b) = (32, 1) := by simp [dec, byteAt]
  rw [this]
  simp

/- kinds of runes -/
def white (r : Nat) : Bool := (decide (9 ≤ r) && decide (r ≤ 13)) || r == 32 || r == 133 || r == 160 || r == 5760 || (decide (8192 ≤ r) && decide (r ≤ 8202)) || r == 8232 || r == 8233 || r == 8239 || r == 8287 || r == 12288
def bare (r : Nat) : Bool := (decide (r < 32) || (decide (127 ≤ r) && decide (r ≤ 159))) && !white r
def letter (r : Nat) : Bool :=
  if r < 128 then (decide (97 ≤ r) && decide (r ≤ 122)) || (decide (65 ≤ r) && decide (r ≤ 90)) || (decide (48 ≤ r) && decide (r ≤ 57))
  else decide (192 ≤ r) && r != 215 && r != 247 && r != 65533 && (decide (r < 8192) || decide (8303 < r)) && !white r
def low (r : Nat) : Nat :=
  if ((decide (65 ≤ r) && decide (r ≤ 90)) || (decide (192 ≤ r) && decide (r ≤ 222) && r != 215) || (decide (913 ≤ r) && decide (r ≤ 939) && r != 930) || (decide (1040 ≤ r) && decide (r ≤ 1071))) = true then r + 32
  else if (decide (1024 ≤ r) && decide (r ≤ 1039)) = true then r + 80
  else r

/-- What is left of runes: 'gap': white ones stood behind the last that was kept; 'ne': some were kept. -/
def cleanGo : Bool → Bool → List Nat → List Nat
  | _, _, [] => []
  | gap, ne, r :: t => if white r then cleanGo true ne t else if bare r then cleanGo gap ne t else (if gap && ne then [32] else []) ++ r :: cleanGo false true t
def clean (l : List Nat) : List Nat := cleanGo false false l
def cleanB (l : List Nat) : List Nat := encs (clean (runes l))
def foldR (l : List Nat) : List Nat := (runes l).map low
def foldB (l : List Nat) : List Nat := encs (foldR l)
def rightB (l : List Nat) (most : Int) : Bool := decide (((runes l).length : Int) ≤ most) && decide (cleanB l = l)
def trimR (l : List Nat) : List Nat := if l.getLast? = some 32 then l.dropLast else l
def cutR (n : Int) (l : List Nat) : List Nat := trimR (l.take n.toNat)
def cutB (l : List Nat) (n : Int) : List Nat := encs (cutR n (clean (runes l)))
def wordsGo : List Nat → List Nat → List (List Nat)
  | cur, [] => if cur = [] then [] else [cur]
  | cur, r :: t => if letter r then wordsGo (cur ++ [r]) t else (if cur = [] then [] else [cur]) ++ wordsGo [] t
def wordsR (l : List Nat) : List (List Nat) := wordsGo [] l
def wordsB (l : List Nat) : List (List Nat) := (wordsR (foldR l)).map encs
def lexLt : List Nat → List Nat → Bool
  | _, [] => false
  | [], _ :: _ => true
  | x :: a, y :: b => if x = y then lexLt a b else decide (x < y)
def lessB (a b : List Nat) : Bool := lexLt (foldR a) (foldR b) || (decide (foldR a = foldR b) && lexLt a b)

theorem cleanGo_valid : ∀ (l : List Nat) (g n : Bool), (∀ r ∈ l, valid r = true) → ∀ r ∈ cleanGo g n l, valid r = true
  | [], _, _, _ => by simp [cleanGo]
  | x :: t, g, n, h => by
    have ht : ∀ r ∈ t, valid r = true := fun r hr => h r (by simp [hr])
    unfold cleanGo
    intro r hr
    split at hr
    · exact cleanGo_valid t _ _ ht r hr
    · split at hr
      · exact cleanGo_valid t _ _ ht r hr
      · rcases List.mem_append.1 hr with hr | hr
        · split at hr
          · simp at hr; subst hr; decide
          · simp at hr
        · rcases List.mem_cons.1 hr with rfl | hr
          · exact h r (by simp)
          · exact cleanGo_valid t _ _ ht r hr
theorem clean_valid (l : List Nat) (h : ∀ r ∈ l, valid r = true) : ∀ r ∈ clean l, valid r = true := cleanGo_valid l _ _ h
theorem clean_ok (l : List Nat) : ∀ r ∈ clean (runes l), valid r = true := clean_valid _ (runes_ok l)
theorem runes_clean (l : List Nat) : runes (cleanB l) = clean (runes l) := runes_encs _ (clean_ok l)

theorem cleanGo_len : ∀ (l : List Nat) (g n : Bool), (cleanGo g n l).length ≤ l.length + (if g && n then 1 else 0)
  | [], _, _ => by simp [cleanGo]
  | x :: t, g, n => by
    have h1 := cleanGo_len t true n
    have h2 := cleanGo_len t g n
    have h3 := cleanGo_len t false true
    unfold cleanGo
    split
    · cases g <;> cases n <;> simp at h1 h2 h3 ⊢ <;> omega
    · split
      · cases g <;> cases n <;> simp at h1 h2 h3 ⊢ <;> omega
      · cases g <;> cases n <;> simp at h1 h2 h3 ⊢ <;> omega
theorem clean_len (l : List Nat) : (clean l).length ≤ l.length := by simpa [clean] using cleanGo_len l false false

theorem low_valid (r : Nat) (h : valid r = true) : valid (low r) = true := by
  simp [valid] at h; unfold low; simp; repeat' split
  all_goals simp [valid]; omega
theorem fold_ok (l : List Nat) : ∀ r ∈ foldR l, valid r = true := by
  intro r hr
  simp only [foldR, List.mem_map] at hr
  obtain ⟨x, hx, rfl⟩ := hr
  exact low_valid x (runes_ok l x hx)
theorem runes_fold (l : List Nat) : runes (foldB l) = foldR l := runes_encs _ (fold_ok l)
end TxtMath

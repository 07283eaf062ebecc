/-
  Plain mathematics of a digest (FIPS 180-4, 256 bits): rounds, blocks, what stands behind the last byte. Nothing of the program is named here.
-/
set_option linter.unusedVariables false
namespace ShaMath

def M : Nat := 4294967296
def rotr (x n : Nat) : Nat := (x / 2 ^ n) ||| (x * 2 ^ (32 - n) % 4294967296)
def big0 (x : Nat) : Nat := rotr x 2 ^^^ rotr x 13 ^^^ rotr x 22
def big1 (x : Nat) : Nat := rotr x 6 ^^^ rotr x 11 ^^^ rotr x 25
def small0 (x : Nat) : Nat := rotr x 7 ^^^ rotr x 18 ^^^ x / 2 ^ 3
def small1 (x : Nat) : Nat := rotr x 17 ^^^ rotr x 19 ^^^ x / 2 ^ 10
def ch (e f g : Nat) : Nat := (e &&& f) ^^^ ((4294967295 ^^^ e) &&& g)
def maj (a b c : Nat) : Nat := (a &&& b) ^^^ (a &&& c) ^^^ (b &&& c)

structure St where
  a : Nat
  b : Nat
  c : Nat
  d : Nat
  e : Nat
  f : Nat
  g : Nat
  h : Nat

def tt (s : St) (k w : Nat) : Nat := (s.h + big1 s.e + ch s.e s.f s.g + k + w) % 4294967296
def uu (s : St) : Nat := (big0 s.a + maj s.a s.b s.c) % 4294967296
def round (s : St) (k w : Nat) : St := ⟨(tt s k w + uu s) % 4294967296, s.a, s.b, s.c, (s.d + tt s k w) % 4294967296, s.e, s.f, s.g⟩

def keys : List Nat := [0x428a2f98, 0x71374491, 0xb5c0fbcf, 0xe9b5dba5, 0x3956c25b, 0x59f111f1, 0x923f82a4, 0xab1c5ed5,
  0xd807aa98, 0x12835b01, 0x243185be, 0x550c7dc3, 0x72be5d74, 0x80deb1fe, 0x9bdc06a7, 0xc19bf174,
  0xe49b69c1, 0xefbe4786, 0x0fc19dc6, 0x240ca1cc, 0x2de92c6f, 0x4a7484aa, 0x5cb0a9dc, 0x76f988da,
  0x983e5152, 0xa831c66d, 0xb00327c8, 0xbf597fc7, 0xc6e00bf3, 0xd5a79147, 0x06ca6351, 0x14292967,
  0x27b70a85, 0x2e1b2138, 0x4d2c6dfc, 0x53380d13, 0x650a7354, 0x766a0abb, 0x81c2c92e, 0x92722c85,
  0xa2bfe8a1, 0xa81a664b, 0xc24b8b70, 0xc76c51a3, 0xd192e819, 0xd6990624, 0xf40e3585, 0x106aa070,
  0x19a4c116, 0x1e376c08, 0x2748774c, 0x34b0bcb5, 0x391c0cb3, 0x4ed8aa4a, 0x5b9cca4f, 0x682e6ff3,
  0x748f82ee, 0x78a5636f, 0x84c87814, 0x8cc70208, 0x90befffa, 0xa4506ceb, 0xbef9a3f7, 0xc67178f2]
def init : St := ⟨0x6a09e667, 0xbb67ae85, 0x3c6ef372, 0xa54ff53a, 0x510e527f, 0x9b05688c, 0x1f83d9ab, 0x5be0cd19⟩

/-- One more word of the schedule. -/
def nextW (w : List Nat) : Nat := (w.getD (w.length - 16) 0 + small0 (w.getD (w.length - 15) 0) + w.getD (w.length - 7) 0 + small1 (w.getD (w.length - 2) 0)) % 4294967296
def ext : Nat → List Nat → List Nat
  | 0, w => w
  | n + 1, w => ext n (w ++ [nextW w])
/-- Bytes as a number, the highest of them first. -/
def bigN (l : List Nat) : Nat := l.foldl (fun v c => v * 256 + c) 0
/-- Four bytes as a word. -/
def word (b : List Nat) (i : Nat) : Nat := bigN ((b.drop (4 * i)).take 4)
def words (b : List Nat) (n : Nat) : List Nat := (List.range n).map (word b)
def sched (b : List Nat) : List Nat := ext 48 (words b 16)
/-- The first n rounds. -/
def rounds : Nat → St → List Nat → List Nat → St
  | 0, s, _, _ => s
  | n + 1, s, k :: ks, w :: ws => rounds n (round s k w) ks ws
  | _ + 1, s, _, _ => s
def addS (s t : St) : St := ⟨(s.a + t.a) % 4294967296, (s.b + t.b) % 4294967296, (s.c + t.c) % 4294967296, (s.d + t.d) % 4294967296, (s.e + t.e) % 4294967296, (s.f + t.f) % 4294967296, (s.g + t.g) % 4294967296, (s.h + t.h) % 4294967296⟩
def comp (s : St) (b : List Nat) : St := addS s (rounds 64 s keys (sched b))

def St.list (s : St) : List Nat := [s.a, s.b, s.c, s.d, s.e, s.f, s.g, s.h]
def bytesW (x : Nat) : List Nat := [x / 2 ^ 24 % 256, x / 2 ^ 16 % 256, x / 2 ^ 8 % 256, x % 256]
def out (s : St) : List Nat := s.list.flatMap bytesW


/-- f of n, once n is a numeral. -/
def force {α : Type} (n : Nat) (f : Nat → α) : α := match n with | 0 => f 0 | k + 1 => f (k + 1)
theorem force_eq {α : Type} (n : Nat) (f : Nat → α) : force n f = f n := by cases n <;> rfl
def roundsF : Nat → St → List Nat → List Nat → St
  | 0, s, _, _ => s
  | n + 1, s, k :: ks, w :: ws => force (tt s k w) fun t => force (uu s) fun u => force ((t + u) % 4294967296) fun x => force ((s.d + t) % 4294967296) fun y => roundsF n ⟨x, s.a, s.b, s.c, y, s.e, s.f, s.g⟩ ks ws
  | _ + 1, s, _, _ => s
theorem roundsF_eq : ∀ n s ks ws, roundsF n s ks ws = rounds n s ks ws
  | 0, _, _, _ => rfl
  | n + 1, s, k :: ks, w :: ws => by simp only [roundsF, rounds, force_eq, round]; exact roundsF_eq n _ ks ws
  | _ + 1, s, [], _ => rfl
  | _ + 1, s, _ :: _, [] => rfl
/-- The schedule, the newest word first. -/
def extF : Nat → List Nat → List Nat
  | 0, w => w
  | n + 1, w => force (nextW w) fun x => extF n (w ++ [x])
theorem extF_eq : ∀ n w, extF n w = ext n w
  | 0, _ => rfl
  | n + 1, w => by simp only [extF, ext, force_eq]; exact extF_eq n _
def forceL {α : Type} : List Nat → (List Nat → α) → α
  | [], f => f []
  | x :: l, f => force x fun y => forceL l fun l' => f (y :: l')
theorem forceL_eq {α : Type} : ∀ (l : List Nat) (f : List Nat → α), forceL l f = f l
  | [], _ => rfl
  | x :: l, f => by simp only [forceL, force_eq]; exact forceL_eq l _
def compF (s : St) (b : List Nat) : St := forceL (words b 16) fun ws => forceL (extF 48 ws) fun w => addS s (roundsF 64 s keys w)
theorem compF_eq (s : St) (b : List Nat) : compF s b = comp s b := by
  simp only [compF, forceL_eq, roundsF_eq, extF_eq]; rfl

/-! The schedule's first words, byte by byte. -/
theorem bigN_snoc (l : List Nat) (c : Nat) : bigN (l ++ [c]) = bigN l * 256 + c := by simp [bigN, List.foldl_append]
theorem bigN_lt (l : List Nat) (h : ∀ c ∈ l, c < 256) : bigN l < 256 ^ l.length := by
  suffices H : ∀ (n : Nat) (l : List Nat), l.length = n → (∀ c ∈ l, c < 256) → bigN l < 256 ^ n from H _ l rfl h
  intro n
  induction n with
  | zero => intro l hl _; rw [List.eq_nil_of_length_eq_zero hl]; decide
  | succ n ih =>
    intro l hl hb
    have hne : l ≠ [] := by intro e; rw [e] at hl; simp at hl
    have hd := List.dropLast_concat_getLast hne
    rw [← hd, bigN_snoc, Nat.pow_succ]
    have h1 := ih l.dropLast (by simp [hl]) (fun c hc => hb c (List.dropLast_subset _ hc))
    have h2 := hb _ (List.getLast_mem hne)
    omega
theorem mem_piece {l : List Nat} {a b : Nat} {c : Nat} (h : c ∈ (l.drop a).take b) : c ∈ l := List.mem_of_mem_drop (List.mem_of_mem_take h)
theorem word_lt (b : List Nat) (i : Nat) (h : ∀ c ∈ b, c < 256) : word b i < 4294967296 := by
  have h1 := bigN_lt ((b.drop (4 * i)).take 4) (fun c hc => h c (mem_piece hc))
  have h2 : ((b.drop (4 * i)).take 4).length ≤ 4 := by simp; omega
  have h3 : 256 ^ ((b.drop (4 * i)).take 4).length ≤ 256 ^ 4 := Nat.pow_le_pow_right (by decide) h2
  unfold word
  omega
/-- The words of what has come so far. -/
def wordsAt (b : List Nat) (k : Nat) : List Nat := (List.range 64).map (word (b.take k))
theorem wordsAt_len (b : List Nat) (k : Nat) : (wordsAt b k).length = 64 := by simp [wordsAt]
theorem wordsAt_get (b : List Nat) (k j : Nat) (hj : j < 64) : (wordsAt b k)[j]?.getD 0 = word (b.take k) j := by simp [wordsAt, hj]
theorem word_part (b : List Nat) (k : Nat) (hk : k < b.length) (h : ∀ c ∈ b, c < 256) : word (b.take k) (k / 4) < 16777216 := by
  have h1 := bigN_lt (((b.take k).drop (4 * (k / 4))).take 4) (fun c hc => h c (List.mem_of_mem_take (mem_piece hc)))
  have h2 : (((b.take k).drop (4 * (k / 4))).take 4).length ≤ 3 := by simp; omega
  have h3 : 256 ^ (((b.take k).drop (4 * (k / 4))).take 4).length ≤ 256 ^ 3 := Nat.pow_le_pow_right (by decide) h2
  unfold word
  omega
theorem word_step (b : List Nat) (k : Nat) (hk : k < b.length) : word (b.take (k + 1)) (k / 4) = word (b.take k) (k / 4) * 256 + b[k]?.getD 0 := by
  unfold word
  rw [← bigN_snoc, List.take_succ_eq_append_getElem hk]
  have h1 : (b.take k).length = k := by simp; omega
  have h2 : ((b.take k).drop (4 * (k / 4))).length ≤ 3 := by rw [List.length_drop, h1]; omega
  rw [List.drop_append_of_le_length (by omega), List.take_of_length_le (i := 4) (by rw [List.length_append]; simp only [List.length_singleton]; omega), List.take_of_length_le (i := 4) (by omega), show b[k]?.getD 0 = b[k] by simp [hk]]
theorem word_other (b : List Nat) (k j : Nat) (hk : k < b.length) (hj : j ≠ k / 4) : word (b.take (k + 1)) j = word (b.take k) j := by
  unfold word
  rw [List.take_succ_eq_append_getElem hk]
  have h1 : (b.take k).length = k := by simp; omega
  by_cases hlt : j < k / 4
  · rw [List.drop_append_of_le_length (by omega), List.take_append_of_le_length (by simp; omega)]
  · rw [List.drop_eq_nil_of_le (by simp; omega), List.drop_eq_nil_of_le (by simp; omega)]
theorem wordsAt_step (b : List Nat) (k : Nat) (hk : k < b.length) (hb : b.length ≤ 256) : wordsAt b (k + 1) = (wordsAt b k).set (k / 4) (word (b.take k) (k / 4) * 256 + b[k]?.getD 0) := by
  apply List.ext_getElem
  · simp [wordsAt]
  · intro i h1 h2
    have hi : i < 64 := by simpa [wordsAt] using h1
    rw [List.getElem_set]
    by_cases e : k / 4 = i
    · rw [if_pos e, ← word_step b k hk]
      simp only [wordsAt, List.getElem_map, List.getElem_range, e]
    · rw [if_neg e]
      simp only [wordsAt, List.getElem_map, List.getElem_range]
      exact word_other b k i hk (fun h => e h.symm)
theorem wordsAt_zero (b : List Nat) : wordsAt b 0 = List.replicate 64 0 := by
  apply List.ext_getElem
  · simp [wordsAt]
  · intro i h1 h2
    rw [List.getElem_replicate]
    simp [wordsAt, word, bigN]
theorem wordsAt_end (b : List Nat) (h : b.length = 64) : wordsAt b 64 = words b 16 ++ List.replicate 48 0 := by
  apply List.ext_getElem
  · simp [wordsAt, words]
  · intro i h1 h2
    have hi : i < 64 := by simpa [wordsAt] using h1
    rw [List.getElem_append]
    split
    · simp [wordsAt, words, List.take_of_length_le (by omega : b.length ≤ 64)]
    · rename_i hn
      have hn' : 16 ≤ i := by simp [words] at hn; omega
      simp only [wordsAt, List.getElem_map, List.getElem_range, List.getElem_replicate, word]
      rw [List.drop_eq_nil_of_le (by simp; omega)]
      rfl
theorem words_len (b : List Nat) (n : Nat) : (words b n).length = n := by simp [words]
theorem words_lt (b : List Nat) (n : Nat) (h : ∀ c ∈ b, c < 256) : ∀ x ∈ words b n, x < 4294967296 := by
  intro x hx
  obtain ⟨i, _, rfl⟩ := List.mem_map.1 hx
  exact word_lt b i h

/-! The schedule's other words. -/
theorem ext_snoc : ∀ n w, ext (n + 1) w = ext n w ++ [nextW (ext n w)]
  | 0, w => rfl
  | n + 1, w => by
    show ext (n + 1) (w ++ [nextW w]) = _
    rw [ext_snoc n (w ++ [nextW w])]; rfl
theorem ext_len : ∀ n w, (ext n w).length = w.length + n
  | 0, w => rfl
  | n + 1, w => by show (ext n (w ++ [nextW w])).length = _; rw [ext_len n]; simp; omega
theorem ext_lt : ∀ n w, (∀ x ∈ w, x < 4294967296) → ∀ x ∈ ext n w, x < 4294967296
  | 0, w, h => h
  | n + 1, w, h => by
    show ∀ x ∈ ext n (w ++ [nextW w]), _
    refine ext_lt n _ (fun x hx => ?_)
    rcases List.mem_append.1 hx with h1 | h1
    · exact h x h1
    · simp at h1; rw [h1]; exact Nat.mod_lt _ (by decide)
/-- The schedule once i words of it are there, as it stands in a table of 64. -/
def schedAt (b : List Nat) (i : Nat) : List Nat := ext (i - 16) (words b 16) ++ List.replicate (64 - i) 0
theorem schedAt_len (b : List Nat) (i : Nat) (h : 16 ≤ i ∧ i ≤ 64) : (schedAt b i).length = 64 := by simp [schedAt, ext_len, words_len]; omega
theorem schedAt_start (b : List Nat) : schedAt b 16 = words b 16 ++ List.replicate 48 0 := rfl
theorem schedAt_end (b : List Nat) : schedAt b 64 = sched b := by simp [schedAt, sched]
theorem schedAt_lt (b : List Nat) (i : Nat) (h : ∀ c ∈ b, c < 256) : ∀ x ∈ schedAt b i, x < 4294967296 := by
  intro x hx
  rcases List.mem_append.1 hx with h1 | h1
  · exact ext_lt _ _ (words_lt b 16 h) x h1
  · have := List.eq_of_mem_replicate h1; omega
theorem getD_lt {l : List Nat} {m : Nat} (h : ∀ x ∈ l, x < m) (h0 : 0 < m) (j : Nat) : l[j]?.getD 0 < m := by
  by_cases hj : j < l.length
  · simp [hj]; exact h _ (List.getElem_mem hj)
  · simp [hj]; exact h0
theorem schedAt_step (b : List Nat) (i : Nat) (h : 16 ≤ i ∧ i < 64) (x : Nat)
    (hx : x = ((schedAt b i)[i - 16]?.getD 0 + small0 ((schedAt b i)[i - 15]?.getD 0) + (schedAt b i)[i - 7]?.getD 0 + small1 ((schedAt b i)[i - 2]?.getD 0)) % 4294967296) : schedAt b (i + 1) = (schedAt b i).set i x := by
  have hl : (ext (i - 16) (words b 16)).length = i := by rw [ext_len, words_len]; omega
  have hx' : x = nextW (ext (i - 16) (words b 16)) := by
    rw [hx]
    unfold nextW schedAt
    rw [hl]
    simp only [List.getD_eq_getElem?_getD]
    rw [List.getElem?_append_left (by omega), List.getElem?_append_left (by omega), List.getElem?_append_left (by omega), List.getElem?_append_left (by omega)]
  unfold schedAt
  rw [show i + 1 - 16 = (i - 16) + 1 by omega, ext_snoc, hx', List.set_append_right _ _ (by omega), hl, Nat.sub_self, show 64 - i = (64 - (i + 1)) + 1 by omega, List.replicate_succ]
  simp

/-! The rounds. -/
theorem rounds_snoc : ∀ (n : Nat) (s : St) (ks ws : List Nat), n < ks.length → n < ws.length → rounds (n + 1) s ks ws = round (rounds n s ks ws) (ks[n]?.getD 0) (ws[n]?.getD 0)
  | 0, s, k :: ks, w :: ws, _, _ => rfl
  | n + 1, s, k :: ks, w :: ws, h1, h2 => by
    show rounds (n + 1) (round s k w) ks ws = _
    rw [rounds_snoc n _ ks ws (by simpa using h1) (by simpa using h2)]
    rfl
def St.ok (s : St) : Prop := s.a < 4294967296 ∧ s.b < 4294967296 ∧ s.c < 4294967296 ∧ s.d < 4294967296 ∧ s.e < 4294967296 ∧ s.f < 4294967296 ∧ s.g < 4294967296 ∧ s.h < 4294967296
theorem round_ok {s : St} (h : s.ok) (k w : Nat) : (round s k w).ok :=
  ⟨Nat.mod_lt _ (by decide), h.1, h.2.1, h.2.2.1, Nat.mod_lt _ (by decide), h.2.2.2.2.1, h.2.2.2.2.2.1, h.2.2.2.2.2.2.1⟩
theorem rounds_ok : ∀ (n : Nat) (s : St) (ks ws : List Nat), s.ok → (rounds n s ks ws).ok
  | 0, s, _, _, h => h
  | n + 1, s, [], _, h => h
  | n + 1, s, _ :: _, [], h => h
  | n + 1, s, k :: ks, w :: ws, h => rounds_ok n _ ks ws (round_ok h k w)
theorem addS_ok (s t : St) : (addS s t).ok := ⟨Nat.mod_lt _ (by decide), Nat.mod_lt _ (by decide), Nat.mod_lt _ (by decide), Nat.mod_lt _ (by decide), Nat.mod_lt _ (by decide), Nat.mod_lt _ (by decide), Nat.mod_lt _ (by decide), Nat.mod_lt _ (by decide)⟩
theorem comp_ok (s : St) (b : List Nat) : (comp s b).ok := addS_ok _ _
theorem init_ok : init.ok := by unfold St.ok init; decide
theorem sched_len (b : List Nat) : (sched b).length = 64 := by simp [sched, ext_len, words_len]

/-! Blocks. -/
/-- The first n blocks. -/
def runN : Nat → St → List Nat → St
  | 0, s, _ => s
  | n + 1, s, m => runN n (comp s (m.take 64)) (m.drop 64)
theorem runN_snoc : ∀ (n : Nat) (s : St) (m : List Nat), runN (n + 1) s m = comp (runN n s m) ((m.drop (64 * n)).take 64)
  | 0, s, m => by simp [runN]
  | n + 1, s, m => by
    show runN (n + 1) (comp s (m.take 64)) (m.drop 64) = _
    rw [runN_snoc n, List.drop_drop, show 64 + 64 * n = 64 * (n + 1) by omega]
    rfl
theorem runN_app : ∀ (n : Nat) (s : St) (m m' : List Nat), 64 * n ≤ m.length → runN n s (m ++ m') = runN n s m
  | 0, _, _, _, _ => rfl
  | n + 1, s, m, m', h => by
    show runN n (comp s ((m ++ m').take 64)) ((m ++ m').drop 64) = runN n (comp s (m.take 64)) (m.drop 64)
    rw [List.take_append_of_le_length (by omega), List.drop_append_of_le_length (by omega), runN_app n _ _ _ (by simp; omega)]
theorem runN_ok : ∀ (n : Nat) (s : St) (m : List Nat), s.ok → (runN n s m).ok
  | 0, _, _, h => h
  | n + 1, s, m, h => runN_ok n _ _ (comp_ok _ _)
/-- What stands of m once its whole blocks are through. -/
def state (m : List Nat) : St := runN (m.length / 64) init m
theorem state_ok (m : List Nat) : (state m).ok := runN_ok _ _ _ init_ok
/-- What is left behind the whole blocks. -/
def tail (m : List Nat) : List Nat := m.drop (64 * (m.length / 64))
theorem tail_len (m : List Nat) : (tail m).length = m.length % 64 := by simp [tail]; omega
theorem state_stay (m c : List Nat) (h : m.length % 64 + c.length < 64) : state (m ++ c) = state m ∧ tail (m ++ c) = tail m ++ c := by
  have e : (m ++ c).length / 64 = m.length / 64 := by simp; omega
  refine ⟨?_, ?_⟩
  · unfold state; rw [e, runN_app _ _ _ _ (by omega)]
  · unfold tail; rw [e, List.drop_append_of_le_length (by omega)]
theorem state_full (m c : List Nat) (h : m.length % 64 + c.length = 64) : state (m ++ c) = comp (state m) (tail m ++ c) ∧ tail (m ++ c) = [] := by
  have e : (m ++ c).length / 64 = m.length / 64 + 1 := by simp; omega
  refine ⟨?_, ?_⟩
  · unfold state tail
    rw [e, runN_snoc, runN_app _ _ _ _ (by omega), List.drop_append_of_le_length (by omega), List.take_of_length_le (by simp; omega)]
  · unfold tail; rw [e]; exact List.drop_eq_nil_of_le (by simp; omega)
/-- How many zeros stand ahead of the length. -/
def zerosOf (n : Nat) : Nat := (119 - n % 64) % 64
def fix8 (n : Nat) : List Nat := [n / 2 ^ 56 % 256, n / 2 ^ 48 % 256, n / 2 ^ 40 % 256, n / 2 ^ 32 % 256, n / 2 ^ 24 % 256, n / 2 ^ 16 % 256, n / 2 ^ 8 % 256, n % 256]
def pad (n : Nat) : List Nat := 128 :: (List.replicate (zerosOf n) 0 ++ fix8 (8 * n))
theorem pad_len (n : Nat) : (pad n).length = 9 + zerosOf n := by simp [pad, fix8]; omega
theorem pad_whole (n : Nat) : (n + (pad n).length) % 64 = 0 := by rw [pad_len]; unfold zerosOf; omega
/-- The digest. -/
def digest (m : List Nat) : List Nat := out (state (m ++ pad m.length))

end ShaMath

/-
  Plain mathematics of a checksum of 32 bits that is reckoned bit by bit: it is linear, it goes on where it was left, and bytes that are changed within 32 bits side by side have another one. Nothing of the program is named here.
-/
set_option linter.unusedVariables false
namespace CrcMath

def poly : Nat := 3988292384
def ones : Nat := 4294967295

/-- One bit. -/
def step (s : Nat) : Nat := if s % 2 = 1 then (s / 2) ^^^ poly else s / 2
/-- So many bits. -/
def steps : Nat → Nat → Nat
  | 0, s => s
  | n + 1, s => steps n (step s)
/-- One byte. -/
def byteC (s c : Nat) : Nat := steps 8 (s ^^^ c)
/-- All bytes. -/
def run (s : Nat) (l : List Nat) : Nat := l.foldl byteC s
/-- The checksum goes on. -/
def more (s : Nat) (l : List Nat) : Nat := run (s ^^^ ones) l ^^^ ones

theorem xor_lt {a b : Nat} (ha : a < 4294967296) (hb : b < 4294967296) : a ^^^ b < 4294967296 := Nat.xor_lt_two_pow (n := 32) ha hb
theorem step_lt {s : Nat} (h : s < 4294967296) : step s < 4294967296 := by
  unfold step
  split
  · exact xor_lt (by omega) (by decide)
  · omega
theorem steps_lt (n : Nat) : ∀ {s : Nat}, s < 4294967296 → steps n s < 4294967296 := by
  induction n with
  | zero => intro s h; exact h
  | succ n ih => intro s h; exact ih (step_lt h)
theorem byteC_lt {s c : Nat} (h : s < 4294967296) (hc : c < 256) : byteC s c < 4294967296 := steps_lt 8 (xor_lt h (by omega))
theorem run_lt {s : Nat} (h : s < 4294967296) (l : List Nat) (hl : ∀ c ∈ l, c < 256) : run s l < 4294967296 := by
  induction l generalizing s with
  | nil => exact h
  | cons c l ih => exact ih (byteC_lt h (hl c (by simp))) (fun x hx => hl x (by simp [hx]))
theorem more_lt {s : Nat} (h : s < 4294967296) (l : List Nat) (hl : ∀ c ∈ l, c < 256) : more s l < 4294967296 := xor_lt (run_lt (xor_lt h (by decide)) l hl) (by decide)

theorem half_xor (a b : Nat) : (a ^^^ b) / 2 = a / 2 ^^^ b / 2 := by
  have := Nat.shiftRight_xor_distrib (a := a) (b := b) (i := 1)
  simpa [Nat.shiftRight_eq_div_pow] using this
theorem step_eq (s : Nat) : step s = (s / 2) ^^^ (if s % 2 = 1 then poly else 0) := by
  unfold step; split <;> simp
theorem step_xor (a b : Nat) : step (a ^^^ b) = step a ^^^ step b := by
  rw [step_eq, step_eq, step_eq, half_xor]
  have hm := Nat.xor_mod_two_eq_one (a := a) (b := b)
  by_cases ha : a % 2 = 1 <;> by_cases hb : b % 2 = 1
  · rw [if_neg (by rw [hm]; simp [ha, hb]), if_pos ha, if_pos hb]
    rw [Nat.xor_zero, Nat.xor_assoc, Nat.xor_comm poly, Nat.xor_assoc, Nat.xor_self, Nat.xor_zero]
  · rw [if_pos (by rw [hm]; simp [ha, hb]), if_pos ha, if_neg hb, Nat.xor_zero, Nat.xor_assoc, Nat.xor_assoc, Nat.xor_comm poly]
  · rw [if_pos (by rw [hm]; simp [ha, hb]), if_neg ha, if_pos hb, Nat.xor_zero, Nat.xor_assoc]
  · rw [if_neg (by rw [hm]; simp [ha, hb]), if_neg ha, if_neg hb, Nat.xor_zero, Nat.xor_zero, Nat.xor_zero]
theorem steps_xor (n : Nat) : ∀ a b, steps n (a ^^^ b) = steps n a ^^^ steps n b := by
  induction n with
  | zero => intro a b; rfl
  | succ n ih => intro a b; show steps n (step (a ^^^ b)) = _; rw [step_xor, ih]; rfl
theorem steps_add (m n : Nat) : ∀ s, steps (m + n) s = steps n (steps m s) := by
  induction m with
  | zero => intro s; simp [steps]
  | succ m ih => intro s; rw [show m + 1 + n = (m + n) + 1 by omega]; exact ih (step s)

theorem step_zero {s : Nat} (h : s < 4294967296) (h0 : step s = 0) : s = 0 := by
  unfold step at h0
  split at h0
  · have h1 : s / 2 = poly := by
      have := congrArg (· ^^^ poly) h0
      simpa [Nat.xor_assoc] using this
    unfold poly at h1; omega
  · omega
theorem steps_zero (n : Nat) : ∀ {s : Nat}, s < 4294967296 → steps n s = 0 → s = 0 := by
  induction n with
  | zero => intro s _ h; exact h
  | succ n ih => intro s h h0; exact step_zero h (ih (step_lt h) h0)
theorem xor_eq_zero {a b : Nat} (h : a ^^^ b = 0) : a = b := by
  have := congrArg (· ^^^ b) h
  simpa [Nat.xor_assoc] using this
theorem steps_inj (n : Nat) {a b : Nat} (ha : a < 4294967296) (hb : b < 4294967296) (h : steps n a = steps n b) : a = b := by
  apply xor_eq_zero
  apply steps_zero n (xor_lt ha hb)
  rw [steps_xor, h, Nat.xor_self]
theorem xor_cancel {a b c : Nat} (h : a ^^^ c = b ^^^ c) : a = b := by
  have := congrArg (· ^^^ c) h
  simpa [Nat.xor_assoc] using this
theorem xor_cancel_left {a b c : Nat} (h : c ^^^ a = c ^^^ b) : a = b := by
  rw [Nat.xor_comm c a, Nat.xor_comm c b] at h; exact xor_cancel h

/-- What was another one stays another one. -/
theorem run_inj (l : List Nat) (hl : ∀ c ∈ l, c < 256) : ∀ {s t : Nat}, s < 4294967296 → t < 4294967296 → run s l = run t l → s = t := by
  induction l with
  | nil => intro s t _ _ h; exact h
  | cons c l ih =>
    intro s t hs ht h
    have hc := hl c (by simp)
    have h1 := ih (fun x hx => hl x (by simp [hx])) (byteC_lt hs hc) (byteC_lt ht hc) h
    exact xor_cancel (steps_inj 8 (xor_lt hs (by omega)) (xor_lt ht (by omega)) h1)
theorem byteC_inj {s c d : Nat} (hs : s < 4294967296) (hc : c < 256) (hd : d < 256) (h : byteC s c = byteC s d) : c = d :=
  xor_cancel_left (steps_inj 8 (xor_lt hs (by omega)) (xor_lt hs (by omega)) h)

theorem run_append (s : Nat) (a b : List Nat) : run s (a ++ b) = run (run s a) b := by simp [run, List.foldl_append]
theorem more_append (s : Nat) (a b : List Nat) : more s (a ++ b) = more (more s a) b := by
  unfold more
  rw [run_append]
  congr 2
  rw [Nat.xor_assoc, Nat.xor_self, Nat.xor_zero]
theorem more_nil (s : Nat) : more s [] = s := by unfold more; simp [run, Nat.xor_assoc]

/-- Bit against bit. -/
theorem run_xor (l m : List Nat) (h : l.length = m.length) : ∀ s t, run (s ^^^ t) (List.zipWith (· ^^^ ·) l m) = run s l ^^^ run t m := by
  induction l generalizing m with
  | nil =>
    intro s t
    have : m = [] := List.eq_nil_of_length_eq_zero (by simpa using h.symm)
    subst this; rfl
  | cons c l ih =>
    intro s t
    cases m with
    | nil => simp at h
    | cons d m =>
      have h' : l.length = m.length := by simpa using h
      show run (byteC (s ^^^ t) (c ^^^ d)) (List.zipWith (· ^^^ ·) l m) = run (byteC s c) l ^^^ run (byteC t d) m
      have e : byteC (s ^^^ t) (c ^^^ d) = byteC s c ^^^ byteC t d := by
        unfold byteC
        rw [← steps_xor]
        congr 1
        rw [Nat.xor_assoc, ← Nat.xor_assoc t c d, Nat.xor_comm t c, Nat.xor_assoc c t d, ← Nat.xor_assoc]
      rw [e]
      exact ih m h' _ _

/-- Three texts of one length. -/
theorem more_three (a b c : List Nat) (hb : a.length = b.length) (hc : a.length = c.length) :
    more 0 (List.zipWith (· ^^^ ·) (List.zipWith (· ^^^ ·) a b) c) = more 0 a ^^^ more 0 b ^^^ more 0 c := by
  unfold more
  have e1 := run_xor (List.zipWith (· ^^^ ·) a b) c (by simp [← hb, hc]) (ones ^^^ ones) ones
  have e2 := run_xor a b hb ones ones
  rw [Nat.xor_self, Nat.zero_xor] at e1
  rw [Nat.zero_xor, e1]
  rw [Nat.xor_self] at e2
  rw [e2]
  generalize run ones a = x
  generalize run ones b = y
  generalize run ones c = z
  generalize ones = o
  apply Nat.eq_of_testBit_eq
  intro i
  simp only [Nat.testBit_xor]
  cases x.testBit i <;> cases y.testBit i <;> cases z.testBit i <;> cases o.testBit i <;> rfl

/-- Even bits go down. -/
theorem step_double (z : Nat) : step (2 * z) = z := by
  unfold step
  rw [if_neg (by omega)]; omega
theorem steps_shift (n : Nat) : ∀ z, steps n (2 ^ n * z) = z := by
  induction n with
  | zero => intro z; simp [steps]
  | succ n ih =>
    intro z
    show steps n (step (2 ^ (n + 1) * z)) = z
    rw [show 2 ^ (n + 1) * z = 2 * (2 ^ n * z) by rw [Nat.pow_succ]; rw [Nat.mul_comm (2 ^ n) 2, Nat.mul_assoc], step_double]
    exact ih z
theorem steps8 (z : Nat) : steps 8 (256 * z) = z := steps_shift 8 z

/-- Four bytes, from nothing, are their word. -/
theorem run_four (e0 e1 e2 e3 : Nat) : run 0 [e0, e1, e2, e3] = steps 32 (e0 ^^^ 256 * (e1 ^^^ 256 * (e2 ^^^ 256 * e3))) := by
  have h3 : ∀ x, steps 8 (steps 8 x ^^^ e3) = steps 16 (x ^^^ 256 * e3) := by
    intro x
    rw [show (16 : Nat) = 8 + 8 from rfl, steps_add, steps_xor 8 x, steps8]
  have h2 : ∀ x, steps 16 (steps 8 x ^^^ e2 ^^^ 256 * e3) = steps 24 (x ^^^ 256 * (e2 ^^^ 256 * e3)) := by
    intro x
    rw [show (24 : Nat) = 8 + 16 from rfl, steps_add, steps_xor 8 x, steps8, Nat.xor_assoc]
  have h1 : ∀ x, steps 24 (steps 8 x ^^^ e1 ^^^ 256 * (e2 ^^^ 256 * e3)) = steps 32 (x ^^^ 256 * (e1 ^^^ 256 * (e2 ^^^ 256 * e3))) := by
    intro x
    rw [show (32 : Nat) = 8 + 24 from rfl, steps_add, steps_xor 8 x, steps8, Nat.xor_assoc]
  show byteC (byteC (byteC (byteC 0 e0) e1) e2) e3 = _
  unfold byteC
  rw [Nat.zero_xor, h3, h2, h1]

theorem split8 (x : Nat) : x % 256 ^^^ 256 * (x / 256) = x := by
  apply Nat.eq_of_testBit_eq
  intro i
  rw [Nat.testBit_xor, show (256 : Nat) = 2 ^ 8 from rfl, Nat.testBit_mod_two_pow, Nat.testBit_two_pow_mul, Nat.testBit_div_two_pow]
  by_cases h : i < 8
  · simp [h, Nat.not_le.2 h]
  · have h' : 8 ≤ i := by omega
    simp [h, h', Nat.sub_add_cancel h']
theorem word (x : Nat) (h : x < 4294967296) : x % 256 ^^^ 256 * (x / 256 % 256 ^^^ 256 * (x / 65536 % 256 ^^^ 256 * (x / 16777216 % 256))) = x := by
  have h3 : x / 16777216 % 256 = x / 16777216 := Nat.mod_eq_of_lt (by omega)
  have a3 : x / 65536 / 256 = x / 16777216 := by omega
  have a2 : x / 256 / 256 = x / 65536 := by omega
  rw [h3, ← a3, split8 (x / 65536), ← a2, split8 (x / 256), split8 x]

/-- Four bytes that are changed by a word that isn't 0 make another checksum. -/
theorem burst (s : Nat) (hs : s < 4294967296) (c0 c1 c2 c3 x : Nat) (h0 : c0 < 256) (h1 : c1 < 256) (h2 : c2 < 256) (h3 : c3 < 256) (hx : x < 4294967296) (hne : x ≠ 0) :
    run s [c0 ^^^ x % 256, c1 ^^^ x / 256 % 256, c2 ^^^ x / 65536 % 256, c3 ^^^ x / 16777216 % 256] ≠ run s [c0, c1, c2, c3] := by
  intro h
  have e := run_xor [c0, c1, c2, c3] [x % 256, x / 256 % 256, x / 65536 % 256, x / 16777216 % 256] rfl s 0
  rw [Nat.xor_zero] at e
  have e' : run s [c0, c1, c2, c3] ^^^ run 0 [x % 256, x / 256 % 256, x / 65536 % 256, x / 16777216 % 256] = run s [c0, c1, c2, c3] := by rw [← e]; exact h
  have z : run 0 [x % 256, x / 256 % 256, x / 65536 % 256, x / 16777216 % 256] = 0 := by
    apply xor_cancel_left (c := run s [c0, c1, c2, c3])
    rw [e', Nat.xor_zero]
  rw [run_four, word x hx] at z
  exact hne (steps_zero 32 hx z)

/-- Bytes ahead and behind. -/
theorem more_mid {s : Nat} (hs : s < 4294967296) (pre mid mid' post : List Nat) (hp : ∀ c ∈ pre, c < 256) (hm : ∀ c ∈ mid, c < 256) (hm' : ∀ c ∈ mid', c < 256) (hq : ∀ c ∈ post, c < 256)
    (h : ∀ t, t < 4294967296 → run t mid' ≠ run t mid) : more s (pre ++ mid' ++ post) ≠ more s (pre ++ mid ++ post) := by
  intro e
  unfold more at e
  have e1 := xor_cancel e
  simp only [run_append] at e1
  have ht := run_lt (xor_lt hs (show ones < 4294967296 by decide)) pre hp
  exact h _ ht (run_inj post hq (run_lt ht _ hm') (run_lt ht _ hm) e1)
theorem one_byte {s c d : Nat} (hs : s < 4294967296) (pre post : List Nat) (hp : ∀ c ∈ pre, c < 256) (hc : c < 256) (hd : d < 256) (hq : ∀ c ∈ post, c < 256) (hne : d ≠ c) :
    more s (pre ++ [d] ++ post) ≠ more s (pre ++ [c] ++ post) :=
  more_mid hs pre [c] [d] post hp (by simpa using hc) (by simpa using hd) hq (fun t ht e => hne (byteC_inj ht hd hc e))

end CrcMath

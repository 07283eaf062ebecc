/-
  A hybrid clock as plain mathematics: what Peek, Next, Check, Witness, Floor answer and leave.
-/
import Derived.Test.YtecijlgkadlmnaaStMath
namespace HlcMath
open StMath (St)
set_option linter.unusedVariables false
set_option linter.unusedSimpArgs false

structure Ck where
  s : St
  m : Int
  d : Int

/-- The clock's numbers are within their limits. -/
structure Ok (c : Ck) : Prop where
  p0 : 0 ≤ c.s.p
  p1 : c.s.p ≤ 281474976710655
  l0 : 0 ≤ c.s.l
  l1 : c.s.l ≤ 65535
  r0 : 0 ≤ c.s.r
  r1 : c.s.r < 64
  m0 : 0 ≤ c.m
  m1 : c.m ≤ 65535
  d0 : 0 ≤ c.d
  d1 : c.d ≤ 281474976710655

def isPhys (n : Int) : Bool := decide (0 ≤ n ∧ n ≤ 281474976710655)
def lim (now d : Int) (s : St) : St × Int := if now + d < s.p then (StMath.zero, 28) else (s, 0)
/-- The stamp that follows; none: the clock is at its end. -/
def foll (c : Ck) (now : Int) : Option St :=
  if c.s.p < now then some ⟨now, 0, c.s.r⟩ else if c.s.l < c.m then some ⟨c.s.p, c.s.l + 1, c.s.r⟩ else if c.s.p < 281474976710655 then some ⟨c.s.p + 1, 0, c.s.r⟩ else none
def peek (c : Ck) (now : Int) : St × Int :=
  if isPhys now = true then (match foll c now with | some s => lim now c.d s | none => (StMath.zero, 27)) else (StMath.zero, 24)
def next (c : Ck) (now : Int) : Ck := if (peek c now).2 = 0 then { c with s := (peek c now).1 } else c
def check (c : Ck) (now : Int) (s : St) : Int := if isPhys now = true then (if StMath.right s = true then (if now + c.d < s.p then 28 else 0) else 21) else 24
/-- Last is raised to p and l, if they are more. -/
def raise (c : Ck) (p l : Int) : Ck := if c.s.p < p ∨ (c.s.p = p ∧ c.s.l < l) then { c with s := ⟨p, l, c.s.r⟩ } else c
def witness (c : Ck) (now : Int) (s : St) : Ck := if check c now s = 0 then raise c s.p s.l else c
def held (p : Int) : Int := if p < 0 then 0 else if 281474976710655 < p then 281474976710655 else p
def floor (c : Ck) (p : Int) : Ck := raise c (held p) c.m

theorem Ck.eq_iff {a b : Ck} : a = b ↔ a.s = b.s ∧ a.m = b.m ∧ a.d = b.d := by cases a; cases b; simp
theorem isPhys_iff {n : Int} : isPhys n = true ↔ 0 ≤ n ∧ n ≤ 281474976710655 := by simp [isPhys]
theorem isPhys_no {n : Int} : isPhys n = false ↔ ¬ (0 ≤ n ∧ n ≤ 281474976710655) := by rw [← isPhys_iff]; simp
theorem held_bd (p : Int) : 0 ≤ held p ∧ held p ≤ 281474976710655 := by unfold held; repeat' split <;> omega
theorem held_id {p : Int} (h0 : 0 ≤ p) (h1 : p ≤ 281474976710655) : held p = p := by unfold held; rw [if_neg (by omega), if_neg (by omega)]

end HlcMath

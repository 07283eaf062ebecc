/-
  Walks of newsreellaw1.takes and newsreellaw1.known: both answer true.
-/
import Derived.Test.YtomfbgeolflenaaWalkG
namespace Go.Proofs.Ytomfbgeolflenaa
open Go.RowKit NumMath
set_option linter.unusedVariables false

theorem takes_any (a : Option Addr) (zs : List Int) (cap : Nat) (w : World) (hr : Row .u8 w a zs) (hb : ∀ c ∈ zs, 0 ≤ c ∧ c ≤ 255) (hc : zs.length ≤ cap) (hm : cap ≤ maxLen) :
    Calls Try.prog 14 #[.slice a zs.length cap] w fun e w' => e = .returned (.bool true) ∧ w' = w := by
  go_enter Try.func14, Try.ntmps14
  go_wp2_with fail
  refine (take_any a zs cap w hr hb hc hm).mono ?_
  rintro e w' ⟨rfl, rfl⟩
  unfold takV
  go_wp2_with fail
  refine (refTake_any a zs cap _ hr hb hc hm).mono ?_
  rintro e w' ⟨rfl, rfl⟩
  unfold takV
  go_wp2
  go_ret
  exact ⟨rfl, rfl⟩

/-- A row of bytes that the call owns, as a string. -/
theorem own_string {w : World} {base n : Nat} {v : Value} {xs : List Int} (h : w.ownsRow base 5 1 v n (xs.map (Value.int .u8))) : (convert 22 9 v).run Try.prog w = .ok (.string (strOfNums xs)) w := by
  have hl : xs.length = n := by simpa using h.1
  rcases h.2 with ⟨rfl, h0⟩ | ⟨g, cap, cur, rfl, _, _, _⟩
  · have : xs = [] := List.eq_nil_of_length_eq_zero (by omega)
    subst this
    exact run_convert_bytes_nil w 22 5 Try.underlying22 Try.underlying5 0 0 9 Try.underlying9
  · refine run_convert_bytes_arg w 22 5 Try.underlying22 Try.underlying5 g 0 n cap xs hl ?_ 9 Try.underlying9
    intro i hi
    rw [Nat.zero_add, h.cellAt i (by omega)]
    have : i < xs.length := by omega
    simp [this]

theorem own_row {w : World} {base n cap g : Nat} {xs : List Int} (h : w.ownsRow base 5 1 (.slice (some ⟨g, 0, none⟩) n cap) n (xs.map (Value.int .u8))) (k : Nat) (hk : k ≤ n) : Row .u8 w (some ⟨g, 0, none⟩) (xs.take k) := by
  have hl : xs.length = n := by simpa using h.1
  refine .inr ⟨g, 0, rfl, fun i hi => ?_⟩
  have hi' : i < k := by simp at hi; omega
  rw [Nat.zero_add, h.cellAt i (by omega)]
  have : i < xs.length := by omega
  simp [this, hi']

theorem lit_row (w : World) (k : IntKind) (l : List Int) (t : TypeId) (g : Nat) (hg : g = w.heap.size) : Row k (w.alloc (.cells (l.map (Value.int k)).toArray t)) (some ⟨g, 0, none⟩) l := by
  refine .inr ⟨g, 0, rfl, fun i hi => ?_⟩
  rw [Nat.zero_add]
  simp [hi, hg]

/-- num.Put, its answer's address under a name of its own. -/
theorem put_own (a al : Option Addr) (zs ls : List Int) (cap capl : Nat) (w : World) (xs : List Int) (n : Nat) (hxs : zs ++ ls.flatMap D = xs) (hn : xs.length = n) (hr : Row .u8 w a zs) (hc : zs.length ≤ cap) (hm : cap ≤ maxLen) (hnil : a = none → cap = 0)
    (hl : Row .u64 w al ls) (hlb : ∀ c ∈ ls, 0 ≤ c ∧ c ≤ 18446744073709551615) (hlc : ls.length ≤ capl) (hlm : capl ≤ maxLen) (hsz : zs.length + 10 * ls.length ≤ 140737488355328) :
    Calls Try.prog 12 #[.slice a zs.length cap, .slice al ls.length capl] w fun e w' => ∃ g, e = .returned (.slice (some ⟨g, 0, none⟩) n n) ∧
      w'.ownsRow w.heap.size 5 1 (.slice (some ⟨g, 0, none⟩) n n) n (xs.map (Value.int .u8)) ∧ Below w.heap.size w w' := by
  refine (put_any a al zs ls cap capl w hr hc hm hnil hl hlb hlc hlm hsz).mono ?_
  subst hxs hn
  rintro e w' ⟨rfl, h1, h2⟩
  exact ⟨_, rfl, h1, h2⟩

/-- num.Fixed likewise. -/
theorem fixed_own (v n : Int) (w : World) (xs : List Int) (m : Nat) (hxs : fixL (held n) v = xs) (hm : held n = m) (h0 : 0 ≤ v) (h1 : v ≤ 18446744073709551615) (hn0 : -9223372036854775808 ≤ n) (hn1 : n ≤ 9223372036854775807) :
    Calls Try.prog 16 #[.int .u64 v, .int .i64 n] w fun e w' => ∃ g, e = .returned (.slice (some ⟨g, 0, none⟩) m m) ∧
      w'.ownsRow w.heap.size 5 1 (.slice (some ⟨g, 0, none⟩) m m) m (xs.map (Value.int .u8)) ∧ Below w.heap.size w w' := by
  refine (fixed_any v n w h0 h1 hn0 hn1).mono ?_
  subst hxs hm
  rintro e w' ⟨rfl, h1, h2⟩
  exact ⟨_, rfl, h1, h2⟩

theorem put_lit : ([] : List Int) ++ [300, 0].flatMap D = [172, 2, 0] := by simp [D, digs]
theorem tak_lit : tak [172, 2, 9] = (300, 2, 0) := by simp [tak, lead, fits, lowL]
theorem fix_lit : fixL (held 3) 258 = [0, 1, 2] := by
  rw [show held 3 = 3 from rfl]; simp [fixL]
theorem big_lit : bigL ([1, 2].take 8) = 258 := by simp [bigL]
theorem str_lit : (strOfNums [172, 2, 0]).toList = [172, 2, 0] := by decide +kernel
theorem str_lit2 : (strOfNums [0, 1, 2]).toList = [0, 1, 2] := by decide +kernel
theorem size_lit : (D 300).length = 2 := by simp [D, digs]
theorem size_lit0 : (D 0).length = 1 := by simp [D, digs]

set_option maxHeartbeats 400000 in
theorem known_any (w : World) : Calls Try.prog 10 #[] w fun e w' => e = .returned (.bool true) ∧ Below w.heap.size w w' := by
  go_enter Try.func10, Try.ntmps10
  go_wp2_with fail
  refine (take_any (some ⟨w.heap.size, 0, none⟩) [172, 2, 9] 3 _ (lit_row w .u8 [172, 2, 9] 5 _ rfl) (by decide) (by decide) (by decide)).mono ?_
  rintro e w' ⟨rfl, rfl⟩
  rw [tak_lit]
  unfold takV
  go_wp2_with fail
  refine (put_own none (some ⟨w.heap.size + 1, 0, none⟩) [] [300, 0] 0 2 _ [172, 2, 0] 3 put_lit rfl (.inl rfl) (by decide) (by decide) (fun _ => rfl) (by exact lit_row _ .u64 [300, 0] 26 _ (by simp)) (by decide) (by decide) (by decide) (by decide)).mono ?_
  rintro e w1 ⟨g, rfl, hown1, hb1⟩
  have hcv := own_string hown1
  have hs1 := str_lit
  have hb1' : Below w.heap.size w w1 := (((Below.refl _ _).alloc (Nat.le_refl _) _).alloc (by simp) _).trans (hb1.mono (by simp; omega))
  clear hown1 hb1
  go_wp2_with fail
  refine (size_any _ _ (by decide) (by decide)).mono ?_
  rintro e w' ⟨rfl, rfl⟩
  rw [size_lit]
  go_wp2_with fail
  refine (size_any _ _ (by decide) (by decide)).mono ?_
  rintro e w' ⟨rfl, rfl⟩
  rw [size_lit0]
  go_wp2_with fail
  refine (fixed_own 258 3 _ [0, 1, 2] 3 fix_lit rfl (by decide) (by decide) (by decide) (by decide)).mono ?_
  rintro e w2 ⟨g2, rfl, hown2, hb2⟩
  have hcv2 := own_string hown2
  have hs2 := str_lit2
  have hb2' := hb1'.trans (hb2.mono hb1'.size)
  clear hown2 hb2 hcv hb1'
  go_wp2_with fail
  refine (big_any (some ⟨w2.heap.size, 0, none⟩) [1, 2] 2 _ (lit_row w2 .u8 [1, 2] 5 _ rfl) (by decide) (by decide) (by decide)).mono ?_
  rintro e w' ⟨rfl, rfl⟩
  rw [big_lit]
  go_wp2
  go_ret
  exact ⟨rfl, hb2'.alloc hb2'.size _⟩
/-- A slice of integers that came in: its elements are a row. -/
theorem isRow_use {k : IntKind} {w : World} {a : Option Addr} {len cap : Nat} {zs : List Int}
    (h : (a = none ∧ len = 0 ∧ cap = 0 ∧ zs = []) ∨ ∃ x, a = some x ∧ len ≤ cap ∧ cap ≤ maxLen ∧ zs.length = cap ∧ (∀ i, i < zs.length → w.cell? (x.add i) = some (.int k (zs.getD i 0))) ∧ ∀ n ∈ zs, (Lit.int k n).wf = true) :
    ∃ xs : List Int, Row k w a xs ∧ xs.length = len ∧ len ≤ cap ∧ cap ≤ maxLen ∧ (a = none → cap = 0) ∧ ∀ n ∈ xs, (Lit.int k n).wf = true := by
  rcases h with ⟨rfl, rfl, rfl, rfl⟩ | ⟨x, rfl, hl, hm, hz, hc, hwf⟩
  · exact ⟨[], .inl rfl, rfl, Nat.le_refl _, by decide, fun _ => rfl, by simp⟩
  · refine ⟨zs.take len, ?_, by simp; omega, hl, hm, fun h => (by simp at h), fun n hn => hwf n (List.mem_of_mem_take hn)⟩
    by_cases h0 : len = 0
    · left; simp [h0]
    · right
      obtain ⟨b, off, spot⟩ := x
      have h1 := hc 0 (by omega)
      have hspot : spot = none := by simpa [Addr.add] using World.cell?_spot h1
      subst hspot
      refine ⟨b, off, rfl, fun i hi => ?_⟩
      simp at hi
      have h2 := hc i (by omega)
      rw [Addr.add_lit] at h2
      rw [h2]
      have h3 : i < len := by omega
      have h4 : i < zs.length := by omega
      simp [h3, h4]

end Go.Proofs.Ytomfbgeolflenaa

/-
  Walks of newsreelref4.AddrRight, newsreelref4.Host, newsreellaw5.parses.
-/
import Derived.Test.YtmdpakkldapciaaDoorFnRefG
import Derived.Test.YtmdpakkldapciaaDoorFnRefP
import Derived.Test.YtmdpakkldapciaaDoorL5Known
namespace Go.Proofs.YtmdpakkldapciaaDoor
open Go.RowKit NumMath
open AddrMath (parse right hostOf pre post is No colon)
set_option maxRecDepth 100000
set_option linter.unusedVariables false
set_option linter.unusedSimpArgs false

set_option maxRecDepth 100000 in
theorem refRight_any (s : List Nat) (w : World) (hb : ∀ c ∈ s, c < 256) (hm : s.length ≤ 10000) :
    Calls Tryd.prog 17 #[.string (strN s)] w fun e w' => e = .returned (.bool (right s)) ∧ Below w.heap.size w w' := by
  have HR : Hid (right s = decide (parse s = (s, 0))) := rfl
  have hfb := AddrMath.parse_lt s
  have hco := AddrMath.parse_code s
  rcases hp : parse s with ⟨f, k⟩
  have HP : Hid _ := refParse_at s f k w hb hm hp
  rw [hp] at HR hfb hco
  simp only at hfb hco
  have heq := strN_eq hfb hb
  clear hp
  by_cases he : k = 0
  · subst he
    have HR2 : Hid (right s = decide (f = s)) := by
      show _ = _
      rw [HR.out, Bool.eq_iff_iff]; simp
    have HP2 : Hid (Calls Tryd.prog 24 #[.string (strN s)] w fun e w' => e = .returned (.tuple #[.string (strN f), .int .i64 0]) ∧ Below w.heap.size w w') := HP.out
    cases hd : decide (f = s) with
    | true =>
      rw [hd] at heq HR2
      clear hd HR hco HP
      go_enter Tryd.func17, Tryd.ntmps17
      go_wp2_with fail
      refine Calls.mono HP2.out ?_
      rintro e w2 ⟨rfl, hb2⟩
      have HB2 : Hid _ := hb2
      clear hb2
      go_wp2
      go_ret
      rw [HR2.out]
      exact ⟨rfl, HB2.out⟩
    | false =>
      rw [hd] at heq HR2
      clear hd HR hco HP
      go_enter Tryd.func17, Tryd.ntmps17
      go_wp2_with fail
      refine Calls.mono HP2.out ?_
      rintro e w2 ⟨rfl, hb2⟩
      have HB2 : Hid _ := hb2
      clear hb2
      go_wp2
      go_ret
      rw [HR2.out]
      exact ⟨rfl, HB2.out⟩
  · have HR2 : Hid (right s = false) := by
      show _ = _
      rw [HR.out]; simp [he]
    have hk0 : ((k : Int) == 0) = false := by simp; omega
    clear HR hco heq
    go_enter Tryd.func17, Tryd.ntmps17
    go_wp2_with fail
    refine Calls.mono HP.out ?_
    rintro e w2 ⟨rfl, hb2⟩
    have HB2 : Hid _ := hb2
    clear hb2
    go_wp2
    go_ret
    rw [HR2.out]
    exact ⟨rfl, HB2.out⟩

set_option maxRecDepth 100000 in
theorem refHostOf_any (s : List Nat) (w : World) (hb : ∀ c ∈ s, c < 256) (hm : s.length ≤ 10000) :
    Calls Tryd.prog 19 #[.string (strN s)] w fun e w' => e = .returned (.string (strN (hostOf s))) ∧ Below w.heap.size w w' := by
  have HR : Hid _ := refRight_any s w hb hm
  have hsz := strN_size s
  cases hr : right s with
  | false =>
    rw [hr] at HR
    have HF : Hid (hostOf s = []) := by show _ = _; unfold hostOf; rw [hr]; rfl
    clear hr
    go_enter Tryd.func19, Tryd.ntmps19
    go_wp2_with fail
    refine Calls.mono HR.out ?_
    rintro e w2 ⟨rfl, hb2⟩
    have HB2 : Hid _ := hb2
    clear hb2
    go_wp2
    go_ret
    rw [HF.out]
    exact ⟨rfl, HB2.out⟩
  | true =>
    obtain ⟨sch, hh, po, st, qu, F⟩ := right_form hr
    rw [hr] at HR
    have hn58 : No (is 58) sch := AddrMath.Sch.no F.sch0.lower F.sch0 (by decide)
    obtain ⟨rest, hrest⟩ : ∃ r, r = hh ++ (po ++ (AddrMath.join st ++ qu)) := ⟨_, rfl⟩
    have hs : s = sch ++ (colon ++ rest) := by rw [hrest]; exact F.is
    have hrb : ∀ c ∈ rest, c < 256 := fun c hc => hb c (by rw [hs]; simp [hc])
    have hrl : rest.length ≤ 10000 := by have := congrArg List.length hs; simp at this; omega
    have hsl : s.length = sch.length + 3 + rest.length := by have := congrArg List.length hs; simp [colon] at this; omega
    have HF : Hid (hostOf s = pre (is 47) rest) := by
      show _ = _
      unfold hostOf
      rw [if_pos hr]
      have e1 : s = sch ++ 58 :: (47 :: 47 :: rest) := hs
      rw [e1, AddrMath.post_hit (by rfl) _ hn58]
      rfl
    have e1 : (pre (anyOf [58]) s).length = sch.length := by rw [anyOf_one, hs]; show (pre (is 58) (sch ++ 58 :: _)).length = _; rw [AddrMath.pre_hit (by rfl) _ hn58]
    have HU1 : Hid (∀ w, _) := fun w => upTo_at s [58] sch.length hb (by decide) (by omega) (by decide) e1 w
    have hs3 : ∀ w, (Instr.sliceAt 9 (.string (strN s)) (some (.int .i64 (((sch.length : Nat) : Int) + 3))) none none).run Tryd.prog w = .ok (.string (strN rest)) w := by
      intro w
      have := slice_from (w := w) s rest (sch.length + 3) (by omega) (by rw [hs, ← List.drop_drop, List.drop_left]; rfl)
      rw [show ((sch.length + 3 : Nat) : Int) = (sch.length : Int) + 3 by omega] at this
      exact this
    have HU2 : Hid (∀ w, _) := fun w => upTo_at rest [47] (pre (is 47) rest).length hrb (by decide) (by omega) (by decide) (by rw [anyOf_one]) w
    have hpl := AddrMath.pre_len (is 47) rest
    have hs4 := fun w => slice_to (w := w) rest (pre (is 47) rest) (pre (is 47) rest).length hpl (AddrMath.pre_take _ _)
    obtain ⟨np, hnp⟩ : ∃ n, n = (pre (is 47) rest).length := ⟨_, rfl⟩
    rw [← hnp] at HU2 hs4 hpl
    generalize pre (is 47) rest = P at *
    obtain ⟨ns, hns⟩ : ∃ n, n = sch.length := ⟨_, rfl⟩
    rw [← hns] at HU1 hs3 hsl
    have hsl2 : ns + 3 ≤ s.length := by omega
    clear hr hs hrest F hn58 hrb e1 hnp hns hsl
    go_enter Tryd.func19, Tryd.ntmps19
    go_wp2_with fail
    refine Calls.mono HR.out ?_
    rintro e w1 ⟨rfl, hb1⟩
    have HB1 : Hid _ := hb1
    clear hb1
    go_wp2_with fail
    refine Calls.mono (HU1.out _) ?_
    rintro e w2 ⟨rfl, hb2⟩
    have HB2 : Hid _ := HB1.out.trans (hb2.mono HB1.out.size)
    clear hb2
    go_wp2_with fail
    refine Calls.mono (HU2.out _) ?_
    rintro e w3 ⟨rfl, hb3⟩
    have HB3 : Hid _ := HB2.out.trans (hb3.mono HB2.out.size)
    clear hb3
    go_wp2
    go_ret
    rw [HF.out]
    exact ⟨rfl, HB3.out⟩

set_option maxRecDepth 100000 in
theorem parses_any (s : List Nat) (w : World) (ht : MaxLen w) (hb : ∀ c ∈ s, c < 256) (hm : s.length ≤ 10000) :
    Calls Tryd.prog 13 #[.string (strN s)] w fun e w' => e = .returned (.bool true) ∧ Below w.heap.size w w' := by
  rcases hp : parse s with ⟨f, k⟩
  have HP1 : Hid _ := parse_at s f k w ht hb hm hp
  have HP2 : Hid (∀ w, _) := fun w => refParse_at s f k w hb hm hp
  have heq : ((strN f).toList == (strN f).toList) = true := by simp
  have heq2 : ((k : Int) == (k : Int)) = true := by simp
  clear hp ht
  go_enter Tryd.func13, Tryd.ntmps13
  go_wp2_with fail
  refine Calls.mono HP1.out ?_
  rintro e w1 ⟨rfl, hb1⟩
  have HB1 : Hid _ := hb1
  clear hb1
  go_wp2_with fail
  refine Calls.mono (HP2.out _) ?_
  rintro e w2 ⟨rfl, hb2⟩
  have HB2 : Hid _ := HB1.out.trans (hb2.mono HB1.out.size)
  clear hb2
  go_wp2
  go_ret
  exact ⟨rfl, HB2.out⟩
end Go.Proofs.YtmdpakkldapciaaDoor

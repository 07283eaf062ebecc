/-
  Walks of addr.Right, Host, Less; strings.Clone.
-/
import Derived.Test.YtmdpakkldapciaaDoorFnAddrI
import Derived.Test.YtmdpakkldapciaaDoorShelfCl
namespace Go.Proofs.YtmdpakkldapciaaDoor
open Go.RowKit NumMath
open AddrMath (pre post is No Ends cut3 colon lower parse right hostOf)
set_option maxRecDepth 100000
set_option linter.unusedVariables false
set_option linter.unusedSimpArgs false

set_option maxRecDepth 100000 in
theorem right_any (s : List Nat) (w : World) (ht : MaxLen w) (hb : ∀ c ∈ s, c < 256) (hm : s.length ≤ 10000) :
    Calls Tryd.prog 16 #[.string (strN s)] w fun e w' => e = .returned (.bool (right s)) ∧ Below w.heap.size w w' := by
  have HP : Hid _ := parse_any s w ht hb hm
  have HV : Hid (parseV s = .tuple #[.string (strN (parse s).1), .int .i64 (((parse s).2 : Nat) : Int)]) := rfl
  have HR : Hid (right s = decide (parse s = (s, 0))) := rfl
  rw [HV.out] at HP
  have hfb := AddrMath.parse_lt s
  have hco := AddrMath.parse_code s
  rcases hp : parse s with ⟨f, e⟩
  rw [hp] at HP HR hfb hco
  simp only at HP hfb hco
  have heq := strN_eq hfb hb
  clear hp HV ht
  by_cases he : e = 0
  · subst he
    have HR2 : Hid (right s = decide (f = s)) := by
      show _ = _
      rw [HR.out, Bool.eq_iff_iff]; simp
    have HP2 : Hid (Calls Tryd.prog 15 #[.string (strN s)] w fun e w' => e = .returned (.tuple #[.string (strN f), .int .i64 0]) ∧ Below w.heap.size w w') := HP.out
    cases hd : decide (f = s) with
    | true =>
      rw [hd] at heq HR2
      clear hd HR hco HP
      go_enter Tryd.func16, Tryd.ntmps16
      go_wp2_with (go_at_call 15; refine Calls.mono HP2.out ?_; rintro e w2 ⟨rfl, hb2⟩; have HB2 : Hid _ := hb2; clear hb2)
      go_ret
      rw [HR2.out]
      exact ⟨rfl, HB2.out⟩
    | false =>
      rw [hd] at heq HR2
      clear hd HR hco HP
      go_enter Tryd.func16, Tryd.ntmps16
      go_wp2_with (go_at_call 15; refine Calls.mono HP2.out ?_; rintro e w2 ⟨rfl, hb2⟩; have HB2 : Hid _ := hb2; clear hb2)
      go_ret
      rw [HR2.out]
      exact ⟨rfl, HB2.out⟩
  · have HR2 : Hid (right s = false) := by
      show _ = _
      rw [HR.out]
      apply decide_eq_false
      intro h
      exact he (Prod.mk.inj h).2
    have hne : ((e : Int) == 0) = false := by simp; omega
    have hne2 : ¬ ((e : Int) = 0) := by omega
    clear he hco
    go_enter Tryd.func16, Tryd.ntmps16
    go_wp2_with (go_at_call 15; refine Calls.mono HP.out ?_; rintro e w2 ⟨rfl, hb2⟩; have HB2 : Hid _ := hb2; clear hb2)
    go_ret
    rw [HR2.out]
    exact ⟨rfl, HB2.out⟩
theorem less_any (a b : ByteArray) (w : World) :
    Calls Tryd.prog 23 #[.string a, .string b] w fun e w' => e = .returned (.bool (Op.bytesLess a.toList b.toList)) ∧ w' = w := by
  go_enter Tryd.func23, Tryd.ntmps23
  go_wp2
  go_ret
  exact ⟨rfl, rfl⟩

set_option maxRecDepth 100000 in
set_option maxHeartbeats 4000000 in
theorem clone_any (l : List Nat) (w : World) (hb : ∀ c ∈ l, c < 256) (hm : l.length ≤ 10000) :
    Calls Tryd.prog 30 #[.string (strN l)] w fun e w' => e = .returned (.string (strN l)) ∧ Below w.heap.size w w' := by
  have HIn : Hid _ := stringslite_Clone (strN l) w (by rw [strN_size]; omega)
  go_enter Tryd.func30, Tryd.ntmps30
  go_wp2_with (go_at_call 49; refine Calls.mono HIn.out ?_; rintro e w2 ⟨rfl, hb2⟩; have HB2 : Hid _ := hb2; clear hb2)
  go_ret
  exact ⟨rfl, HB2.out⟩

theorem hostOf_lt (s : List Nat) (hb : ∀ c ∈ s, c < 256) : ∀ c ∈ hostOf s, c < 256 := by
  intro c hc
  unfold hostOf at hc
  split at hc
  · exact hb c (AddrMath.post_mem (List.mem_of_mem_drop (AddrMath.pre_mem hc)))
  · cases hc
theorem hostOf_len (s : List Nat) : (hostOf s).length ≤ s.length := by
  unfold hostOf
  split
  · have h1 := AddrMath.pre_len (is 47) ((post (is 58) s).drop 3)
    have h2 := AddrMath.post_len (is 58) s
    rw [List.length_drop] at h1
    omega
  · simp
/-- Of a Right one: its scheme, its host, what follows. -/
theorem right_form {s : List Nat} (h : right s = true) : ∃ sch hh po st qu, AddrMath.Form s sch hh po st qu := by
  have : parse s = (s, 0) := of_decide_eq_true h
  exact AddrMath.form_of_parse this

set_option maxRecDepth 100000 in
theorem host_any (s : List Nat) (w : World) (ht : MaxLen w) (hb : ∀ c ∈ s, c < 256) (hm : s.length ≤ 10000) :
    Calls Tryd.prog 18 #[.string (strN s)] w fun e w' => e = .returned (.string (strN (hostOf s))) ∧ Below w.heap.size w w' := by
  have HR : Hid _ := right_any s w ht hb hm
  have HT : Hid _ := ht
  cases hr : right s with
  | false =>
    rw [hr] at HR
    have HF : Hid (hostOf s = []) := by show _ = _; unfold hostOf; rw [hr]; rfl
    clear hr ht
    go_enter Tryd.func18, Tryd.ntmps18
    go_wp2_with (go_at_call 16; refine Calls.mono HR.out ?_; rintro e w2 ⟨rfl, hb2⟩; have HB2 : Hid _ := hb2; clear hb2)
    go_ret
    rw [HF.out]
    exact ⟨rfl, HB2.out⟩
  | true =>
    obtain ⟨sch, hh, po, st, qu, F⟩ := right_form hr
    rw [hr] at HR
    have hn58 : No (is 58) sch := AddrMath.Sch.no F.sch0.lower F.sch0 (by decide)
    obtain ⟨rest, hrest⟩ : ∃ r, r = hh ++ (po ++ (AddrMath.join st ++ qu)) := ⟨_, rfl⟩
    have hs : s = sch ++ (colon ++ rest) := by rw [hrest]; exact F.is
    have hc3 : cut3 s = some (sch, rest) := by rw [hs]; exact AddrMath.cut3_hit rest hn58
    have hcv : cutV s = .tuple #[.string (strN sch), .string (strN rest), .bool true] := by unfold cutV; rw [hc3]
    have HC : Hid (∀ w, MaxLen w → _) := fun w ht => cutC_any s hb w ht (by omega)
    rw [hcv] at HC
    have hrb : ∀ c ∈ rest, c < 256 := fun c hc => hb c (by rw [hs]; simp [hc])
    have hrl : rest.length ≤ 10000 := by have := congrArg List.length hs; simp at this; omega
    have HC2 : Hid (∀ w, MaxLen w → _) := fun w ht => cut1_any 47 (by decide) rest hrb w ht (by omega)
    have HF : Hid (hostOf s = pre (is 47) rest) := by
      show _ = _
      unfold hostOf
      rw [if_pos hr]
      have e1 : s = sch ++ 58 :: (47 :: 47 :: rest) := hs
      rw [e1, AddrMath.post_hit (by rfl) _ hn58]
      rfl
    have hpb : ∀ c ∈ pre (is 47) rest, c < 256 := fun c hc => hrb c (AddrMath.pre_mem hc)
    have hpl := AddrMath.pre_len (is 47) rest
    have HCl : Hid (∀ w, _) := fun w => clone_any (pre (is 47) rest) w hpb (by omega)
    generalize pre (is 47) rest = P at *
    clear hr ht hcv hc3 hs hrest F hn58 hrb
    go_enter Tryd.func18, Tryd.ntmps18
    go_wp2_with fail
    refine Calls.mono HR.out ?_
    rintro e w1 ⟨rfl, hb1⟩
    have HB1 : Hid _ := hb1
    clear hb1
    go_wp2_with fail
    refine Calls.mono (HC.out _ (MaxLen.later HT.out HB1.out)) ?_
    rintro e w2 ⟨rfl, hb2⟩
    have HB2 : Hid _ := HB1.out.trans (hb2.mono HB1.out.size)
    clear hb2
    go_wp2_with fail
    refine Calls.mono (HC2.out _ (MaxLen.later HT.out HB2.out)) ?_
    rintro e w3 ⟨rfl, hb3⟩
    have HB3 : Hid _ := HB2.out.trans (hb3.mono HB2.out.size)
    clear hb3
    go_wp2_with fail
    refine Calls.mono (HCl.out _) ?_
    rintro e w4 ⟨rfl, hb4⟩
    have HB4 : Hid _ := HB3.out.trans (hb4.mono HB3.out.size)
    clear hb4
    go_wp2
    go_ret
    rw [HF.out]
    exact ⟨rfl, HB4.out⟩
end Go.Proofs.YtmdpakkldapciaaDoor

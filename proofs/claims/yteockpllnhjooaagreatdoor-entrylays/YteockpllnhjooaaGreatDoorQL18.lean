/-
  FnAddrG, FnAddrH, FnAddrI, FnParse.
-/
import Derived.Test.YteockpllnhjooaaGreatDoorQL17
import Derived.Lib.AppendStr
import Derived.Test.YteockpllnhjooaaGreatDoorQL01
namespace Go.Proofs.YteockpllnhjooaaGreatDoor
open Go.RowKit NumMath
open AddrMath (pre post is No Ends splitD dotsGo join dots)
set_option maxRecDepth 100000
set_option linter.unusedVariables false
set_option linter.unusedSimpArgs false

/-- The last place of c in l, or -1. -/
def LastAt (c : Nat) (l : List Nat) (res : Int) : Prop := (∃ a g, l = a ++ c :: g ∧ No (is c) g ∧ res = a.length) ∨ (No (is c) l ∧ res = -1)
theorem LastAt.here {c : Nat} {l : List Nat} {res : Int} (h : LastAt c l res) {k : Nat} (hk : l[k]? = some c) (ha : ∀ j x : Nat, k < j → l[j]? = some x → x ≠ c) : res = k := by
  rcases h with ⟨a, g, rfl, hg, rfl⟩ | ⟨hn, _⟩
  · rcases Nat.lt_trichotomy k a.length with h1 | h1 | h1
    · exact absurd rfl (ha a.length c h1 (by simp))
    · rw [h1]
    · rw [List.getElem?_append_right (by omega)] at hk
      obtain ⟨d, hd⟩ : ∃ d, k - a.length = d + 1 := ⟨k - a.length - 1, by omega⟩
      rw [hd, List.getElem?_cons_succ] at hk
      have := hg c (List.mem_of_getElem? hk)
      simp [is] at this
  · have := hn c (List.mem_of_getElem? hk)
    simp [is] at this
theorem LastAt.none {c : Nat} {l : List Nat} {res : Int} (h : LastAt c l res) (ha : ∀ j x : Nat, l[j]? = some x → x ≠ c) : res = -1 := by
  rcases h with ⟨a, g, rfl, hg, rfl⟩ | ⟨_, h⟩
  · exact absurd rfl (ha a.length c (by simp))
  · exact h
theorem LastAt.range {c : Nat} {l : List Nat} {res : Int} (h : LastAt c l res) : -1 ≤ res ∧ res ≤ l.length := by
  rcases h with ⟨a, g, rfl, hg, rfl⟩ | ⟨_, rfl⟩
  · simp; omega
  · omega

set_option maxRecDepth 100000 in
set_option maxHeartbeats 4000000 in
theorem lastIndexByte_any (ao : Option Addr) (cap c : Nat) (l : List Nat) (res : Int) (w : World) (hr : VRow w ao (bv l)) (hc : l.length ≤ cap) (hm : cap ≤ maxLen) (hcb : c < 256) (hl : ∀ x ∈ l, x < 256) (hres : LastAt c l res) :
    Calls Tryz.prog 82 #[.slice ao l.length cap, .int .u8 (c : Int)] w fun e w' => e = .returned (.int .i64 res) ∧ w' = w := by
  have HIn : Hid (Calls Tryz.prog 102 #[.slice ao l.length cap, .int .u8 (c : Int)] w fun e w' => e = .returned (.int .i64 res) ∧ w' = w) := by
    unfold maxLen at hm
    have HR : Hid _ := hr
    have HRes : Hid _ := hres
    have HL : Hid _ := hl
    obtain ⟨n, hn⟩ : ∃ n, n = l.length := ⟨_, rfl⟩
    have HN : Hid _ := hn
    rw [← hn] at hc ⊢
    clear hn hr hres hl
    show Calls _ _ _ _ _
    go_enter Tryz.func102, Tryz.ntmps102
    go_wp2
    go_loop [5] (fun i => ∃ k : Nat, k ≤ n ∧ i = .int .i64 ((k : Int) - 1) ∧ ∀ j x : Nat, k ≤ j → l[j]? = some x → x ≠ c) (fun i => (intOf i + 1).toNat)
    case atStart => exact ⟨n, Nat.le_refl _, rfl, fun j x hj hx => by have := (List.getElem?_eq_some_iff.1 hx).1; have := HN.out; omega⟩
    case round =>
      obtain ⟨k, hk, rfl, hall⟩ := hrel
      have HA : Hid _ := hall
      clear hall
      by_cases hk0 : 0 < k
      · obtain ⟨j, rfl⟩ : ∃ j, k = j + 1 := ⟨k - 1, by omega⟩
        have hjl : j < l.length := by rw [← HN.out]; omega
        obtain ⟨b, off, rfl, hcell⟩ := VRow.at HR.out (k := j) (by rw [bv_len]; exact hjl)
        obtain ⟨x, hx⟩ : ∃ x, l[j]? = some x := ⟨l[j], List.getElem?_eq_getElem hjl⟩
        have hcx := hcell j (.int .u8 (x : Int)) (by simp [bv, hx])
        have hx256 := HL.out x (List.mem_of_getElem? hx)
        have HX : Hid _ := hx
        have hj1 : ((j + 1 : Nat) : Int) - 1 = (j : Int) := by omega
        rw [hj1]
        clear hcell hx hj1
        by_cases hxc : x = c
        · subst hxc
          have HF : Hid (res = (j : Int)) := LastAt.here HRes.out HX.out (fun i y hi hy => HA.out i y (by omega) hy)
          go_wp2
          go_ret
          rw [HF.out]
          exact ⟨rfl, rfl⟩
        · have hne : ((x : Int) == (c : Int)) = false := by simp; omega
          have HXC : Hid _ := hxc
          clear hxc
          go_wp2
          go_round
          case rel =>
            refine ⟨j, by omega, rfl, fun i y hi hy => ?_⟩
            by_cases e : i = j
            · subst e
              have := HX.out
              rw [hy] at this
              rw [Option.some.inj this]
              exact HXC.out
            · exact HA.out i y (by omega) hy
          case measure => simp [intOf]
      · have e : k = 0 := by omega
        subst e
        have HF : Hid (res = -1) := LastAt.none HRes.out (fun j x hx => HA.out j x (by omega) hx)
        go_wp2
        go_ret
        rw [HF.out]
        exact ⟨rfl, rfl⟩
  clear hr hres hl hm
  go_enter Tryz.func82, Tryz.ntmps82
  go_wp2_with (go_at_call 102; refine Calls.mono HIn.out ?_; rintro e w2 ⟨rfl, h2w⟩; subst w2)
  go_ret
  exact ⟨rfl, rfl⟩
theorem Own.take {w : World} {base : Nat} {ao : Option Addr} {cap : Nat} {vs : List Value} (h : Own w base 5 (.slice ao vs.length cap) vs) (k : Nat) (hk : k ≤ vs.length) : Own w base 5 (.slice ao k cap) (vs.take k) := by
  have hl : (vs.take k).length = k := by rw [List.length_take]; omega
  unfold Own
  rw [hl]
  refine ⟨by simp [hl], ?_⟩
  rcases h.2 with ⟨h2, h3⟩ | ⟨g, cp, cur, h2, h3, h4, h5, h6, h7, h8⟩
  · left
    injection h2 with e1 e2 e3
    have : k = 0 := by omega
    subst this
    rw [e1, e3]
    exact ⟨rfl, rfl⟩
  · right
    injection h2 with e1 e2 e3
    subst e1
    subst e3
    refine ⟨g, cap, cur, rfl, h3, h4, by omega, h6, h7, ?_⟩
    rw [Nat.mul_one] at h8 ⊢
    rw [← h8, List.take_take, Nat.min_eq_left hk]
/-- The path so far, and what is cut off it. -/
theorem lastAt_join {st : List (List Nat)} (h : ∀ g ∈ st, No (is 47) g) : ∃ (res : Int) (k : Nat), LastAt 47 (join st) res ∧ max 0 res = (k : Int) ∧ (join st).take k = join st.dropLast ∧ k ≤ (join st).length := by
  rcases List.eq_nil_or_concat st with rfl | ⟨s, g, rfl⟩
  · exact ⟨-1, 0, .inr ⟨No.nil _, rfl⟩, by decide, rfl, by omega⟩
  · rw [List.concat_eq_append] at h ⊢
    have e : join (s ++ [g]) = join s ++ 47 :: g := by rw [AddrMath.join_app, AddrMath.join_one]
    refine ⟨(join s).length, (join s).length, .inl ⟨join s, g, e, h g (by simp), rfl⟩, by omega, ?_, ?_⟩
    · rw [e, List.dropLast_concat, List.take_left]
    · rw [e, List.length_append]; omega
def mdots : Value → Value → Nat
  | .string s, .bool true => s.size + 1
  | _, _ => 0
theorem splitD_pre (c : Nat) (l : List Nat) : (post (is c) l = [] ∧ splitD c l = [pre (is c) l]) ∨ (∃ t, post (is c) l = c :: t ∧ splitD c l = pre (is c) l :: splitD c t ∧ t.length < l.length) := by
  have e := AddrMath.pre_post (is c) l
  rcases AddrMath.post_cases (is c) l with h | ⟨d, t, h, hd⟩
  · left
    rw [h, List.append_nil] at e
    refine ⟨h, ?_⟩
    have hn := AddrMath.pre_no (is c) l
    rw [e] at hn ⊢
    exact AddrMath.splitD_none hn
  · right
    have hd' : d = c := by simpa [is] using hd
    subst hd'
    refine ⟨t, h, ?_, ?_⟩
    · rw [h] at e
      rw [← AddrMath.splitD_hit t (AddrMath.pre_no (is d) l), e]
    · have := congrArg List.length e
      rw [h, List.length_append] at this
      simp at this; omega
theorem dotsGo_one (st : List (List Nat)) (g : List Nat) : dotsGo st [g] = if g = [46] then st ++ [[]] else if g = [46, 46] then st.dropLast ++ [[]] else st ++ [g] := rfl
theorem dotsGo_more (st : List (List Nat)) (g t : List Nat) : dotsGo st (g :: splitD 47 t) = if g = [46] then dotsGo st (splitD 47 t) else if g = [46, 46] then dotsGo st.dropLast (splitD 47 t) else dotsGo (st ++ [g]) (splitD 47 t) := by
  cases h : splitD 47 t with
  | nil => exact absurd h (AddrMath.splitD_ne 47 t)
  | cons a b => rfl
theorem join_len_le : ∀ st : List (List Nat), (join st.dropLast).length ≤ (join st).length := by
  intro st
  rcases List.eq_nil_or_concat st with rfl | ⟨s, g, rfl⟩
  · simp
  · rw [List.concat_eq_append, List.dropLast_concat, AddrMath.join_app, List.length_append]; omega
theorem strCells_strN (l : List Nat) (hl : ∀ c ∈ l, c < 256) : Lib.strCells (strN l) = bv l := by
  unfold Lib.strCells
  rw [strN_data, List.map_map]
  unfold bv
  apply List.map_congr_left
  intro x hx
  have := hl x hx
  simp; omega
end Go.Proofs.YteockpllnhjooaaGreatDoor
namespace Go.Proofs.YteockpllnhjooaaGreatDoor
open Go.RowKit NumMath
open AddrMath (pre post is No Ends splitD dotsGo join dots)
set_option maxRecDepth 100000
set_option linter.unusedVariables false
set_option linter.unusedSimpArgs false

/-- What a round of withoutDots begins with. -/
def DotsAt (l : List Nat) (w : World) (base : Nat) (s v mo : Value) (wr : World) : Prop :=
  ∃ (st : List (List Nat)) (rest : List Nat) (b : Bool), s = .string (strN rest) ∧ mo = .bool b ∧ (∀ c ∈ rest, c < 256) ∧ (∀ c ∈ join st, c < 256) ∧ (∀ g ∈ st, No (is 47) g) ∧ Own wr base 5 v (bv (join st)) ∧ Below w.heap.size w wr ∧ base ≤ wr.heap.size ∧
    ((b = true ∧ dotsGo [] (splitD 47 l) = dotsGo st (splitD 47 rest) ∧ (join st).length + rest.length + 1 ≤ l.length + 1) ∨ (b = false ∧ dotsGo [] (splitD 47 l) = st))
section
variable {ops : Array Oper} {rest : List Oper} {o : Oper} {a : Act} {w : World} {Q : Exit → Act → World → Prop}
/-- append of a text. -/
theorem wpList_app_text (hgd : o.guard = none) (s x : Operand) (ho : o.op = .call { callee := .builtin .append, args := #[s, x], argTypes := #[48, 9] })
    (base : Nat) (v : Value) (l m : List Nat) (hs : a.eval s = v) (hown : Own w base 5 v (bv l)) (hx : a.eval x = .string (strN m)) (hm : ∀ c ∈ m, c < 256) (hl : l.length + m.length ≤ 1000000000) (hbase : base ≤ w.heap.size)
    (h : ∀ v' w', Own w' base 5 v' (bv (l ++ m)) → w.grownBy w' v.ownBlock → wpList Tryz.prog ops Q rest (a.put o.dst v') w') : wpList Tryz.prog ops Q (o :: rest) a w := by
  obtain ⟨i0, hi, hz0, hz1, hz2⟩ := info_parts Tryz.info5
  refine Lib.wpList_append_own_string w hgd s x 48 9 ho base 5 i0 Tryz.underlying48 Tryz.underlying9 hi hz0 hz1 hz2 v (bv l).length (bv l) hs hown (strN m) hx (by rw [bv_len, strN_size]; unfold maxLen; omega) (by rw [bv_len, strN_size]; omega) hbase ?_
  intro v' w' h1 h2 _
  refine h v' w' ?_ h2
  unfold Own
  rw [strN_size, strCells_strN m hm] at h1
  rw [bv_app, List.length_append, bv_len m]
  exact h1
end

set_option maxRecDepth 100000 in
set_option maxHeartbeats 8000000 in
theorem withoutDots_any (l : List Nat) (w : World) (ht : MaxLen w) (hb : ∀ c ∈ l, c < 256) (hm : l.length ≤ 100000) :
    Calls Tryz.prog 49 #[.string (strN l)] w fun e w' => e = .returned (.string (strN (dots l))) ∧ Below w.heap.size w w' := by
  have HT : Hid _ := ht
  have HD : Hid (dots l = join (dotsGo [] (splitD 47 l))) := rfl
  clear ht
  go_enter Tryz.func49, Tryz.ntmps49
  go_wp2
  go_loopw [0, 3, 4] (fun s v mo wr => DotsAt l w w.heap.size s v mo wr) (fun s _ mo _ => mdots s mo)
  case atStart => exact ⟨[], l, true, rfl, rfl, hb, (by intro c hc; cases hc), (by intro g hg; cases hg), Own.nil _ _ _, Below.refl _ _, Nat.le_refl _, .inl ⟨rfl, rfl, by simp [join]⟩⟩
  case round =>
    obtain ⟨st, rest, b, rfl, rfl, hrb, hjb, h47, hown, hbw, hsz, hst⟩ := hrel
    have HO : Hid _ := hown
    have HB : Hid _ := hbw
    rcases hst with ⟨rfl, hdots, hlen⟩ | ⟨rfl, hdots⟩
    · have HCut : Hid _ := cut1_any 47 (by decide) rest hrb wr (MaxLen.later HT.out hbw) (by omega)
      have HG0 : Hid _ := hdots
      have hpl := AddrMath.pre_len (is 47) rest
      have hpb : ∀ c ∈ pre (is 47) rest, c < 256 := fun c hc => hrb c (AddrMath.pre_mem hc)
      have hptb : ∀ c ∈ (post (is 47) rest).tail, c < 256 := fun c hc => hrb c (AddrMath.post_mem (List.mem_of_mem_tail hc))
      have hp47 := AddrMath.pre_no (is 47) rest
      have hpo := AddrMath.post_len (is 47) rest
      have HSP : Hid _ := splitD_pre 47 rest
      have hrsz := strN_size rest
      generalize pre (is 47) rest = g at *
      have hq2 := eq_lit [46, 46] [46, 46] rfl hpb (by decide)
      have hq1 := eq_lit [46] [46] rfl hpb (by decide)
      obtain ⟨ao, cap, hvv, hc1, hc2, hcn, hrow⟩ := Own.shape hown
      rw [bv_len] at hvv hc1
      subst hvv
      have hjl : (join st).length ≤ 100000 := by omega
      have HMs : Hid (∀ t : List Nat, ∀ bb : Bool, (bb = true → t.length < rest.length) → mdots (.string (strN t)) (.bool bb) < mdots (.string (strN rest)) (.bool true)) := by
        intro t bb hbb
        cases bb with
        | true => have := hbb rfl; show (strN t).size + 1 < (strN rest).size + 1; rw [strN_size, strN_size]; omega
        | false => show 0 < (strN rest).size + 1; omega
      clear hown hbw hdots
      -- the three kinds of segments
      have hkind : (g = [46, 46] ∧ ¬ g = [46]) ∨ (g = [46] ∧ ¬ g = [46, 46]) ∨ (¬ g = [46, 46] ∧ ¬ g = [46]) := by
        by_cases h1 : g = [46, 46]
        · left; exact ⟨h1, by rw [h1]; decide⟩
        · by_cases h2 : g = [46]
          · right; left; exact ⟨h2, h1⟩
          · right; right; exact ⟨h1, h2⟩
      have hmore : (post (is 47) rest = [] ∧ splitD 47 rest = [g]) ∨ (∃ t, post (is 47) rest = 47 :: t ∧ splitD 47 rest = g :: splitD 47 t ∧ t.length < rest.length) := HSP.out
      obtain ⟨M, t, hMt, HCut2, hmore2⟩ : ∃ (M : Bool) (t : List Nat), (M = true → t.length < rest.length) ∧ Hid (Calls Tryz.prog 45 #[.string (strN rest), .string (strN [47])] wr fun e w' => e = .returned (.tuple #[.string (strN g), .string (strN t), .bool M]) ∧ Below wr.heap.size wr w') ∧ ((M = true ∧ splitD 47 rest = g :: splitD 47 t ∧ g.length + 1 + t.length = rest.length ∧ ∀ c ∈ t, c < 256) ∨ (M = false ∧ splitD 47 rest = [g] ∧ t = [])) := by
        rcases hmore with ⟨h1, h2⟩ | ⟨t, h1, h2, h3⟩
        · refine ⟨false, [], by simp, ?_, .inr ⟨rfl, h2, rfl⟩⟩
          have := HCut.out
          rw [h1] at this
          exact this
        · refine ⟨true, t, fun _ => h3, ?_, .inl ⟨rfl, h2, ?_, ?_⟩⟩
          · have := HCut.out
            rw [h1] at this
            exact this
          · rw [h1] at hpo; simp at hpo; omega
          · rw [h1] at hptb; exact hptb
      have HME : Hid _ := HMs.out t M hMt
      clear HCut HSP hmore hMt HMs hptb hpo
      generalize post (is 47) rest = P at *
      rcases hkind with ⟨hk1, hk2⟩ | ⟨hk1, hk2⟩ | ⟨hk1, hk2⟩
      · -- two dots
        rw [decide_eq_true hk1] at hq2
        rw [decide_eq_false hk2] at hq1
        have HK : Hid _ := hk1
        have HR : Hid _ := hrow
        have HC2 : Hid _ := hc2
        have HC1 : Hid _ := hc1
        have HLe : Hid ((join st.dropLast).length ≤ (join st).length) := join_len_le st
        have HJb : Hid (∀ c ∈ join st.dropLast, c < 256) := by
          obtain ⟨_, k, _, _, h, _⟩ := lastAt_join h47
          intro c hc
          rw [← h] at hc
          exact hjb c (List.mem_of_mem_take hc)
        have H47 : Hid (∀ g ∈ st.dropLast, No (is 47) g) := fun g hg => h47 g (List.dropLast_subset _ hg)
        obtain ⟨res, k, hla, hmax, htk, hkl⟩ := lastAt_join h47
        have hrr := hla.range
        have HLA : Hid _ := hla
        have HTK : Hid _ := htk
        have HJB : Hid _ := hjb
        clear hla htk
        have hdl : (join st.dropLast).length ≤ 100000 := by have := HLe.out; omega
        have hkc : (k : Int) ≤ (cap : Int) := by omega
        have hkc2 : k ≤ cap := by omega
        have HJ1 : Hid (join (st.dropLast ++ [[]]) = join (st.dropLast) ++ [47]) := by show _ = _; rw [AddrMath.join_app, AddrMath.join_one]
        have H471 : Hid (∀ x ∈ st.dropLast ++ [[]], No (is 47) x) := by
          intro x hx
          rcases List.mem_append.1 hx with h | h
          · exact H47.out x h
          · simp at h; subst h; exact No.nil _
        have HJb1 : Hid (∀ c ∈ join (st.dropLast ++ [[]]), c < 256) := by
          intro c hc
          rw [HJ1.out] at hc
          rcases List.mem_append.1 hc with h | h
          · exact HJb.out c h
          · simp at h; omega
        rcases hmore2 with ⟨rfl, hm1, hm2, hm3⟩ | ⟨rfl, hm1, rfl⟩
        · have HFin : Hid (∀ v w', Own w' w.heap.size 5 v (bv (join (st.dropLast))) → Below w.heap.size w w' → w.heap.size ≤ w'.heap.size → DotsAt l w w.heap.size (.string (strN t)) v (.bool true) w') := by
            intro v w' h1 h2 h3
            refine ⟨st.dropLast, t, true, rfl, rfl, hm3, HJb.out, H47.out, h1, h2, h3, .inl ⟨rfl, ?_, ?_⟩⟩
            · rw [HG0.out, hm1, dotsGo_more, if_neg (by rw [HK.out]; decide), if_pos HK.out]
            · have := HLe.out; omega
          clear hm1 hm2 hm3 HG0 hk1 hk2 hrow hc2 hc1
          go_wp2_with (first | (go_at_call 45; refine Calls.mono HCut2.out ?_; rintro e w2 ⟨rfl, hb2⟩; have HB2 : Hid _ := HB.out.trans (hb2.mono HB.out.size); have HO2 : Hid _ := Own.later HO.out hb2; have hs2 := HB2.out.size; have HR2 : Hid _ := VRow.later HR.out hb2; clear hb2) | (go_at_call 82; refine Calls.mono (lastIndexByte_any ao cap 47 (join st) res _ HR2.out HC1.out HC2.out (by decide) HJB.out HLA.out) ?_; rintro e w5 ⟨rfl, h5w⟩; subst w5; have HO5 : Hid (Own w2 w.heap.size 5 (.slice ao k cap) (bv (join st.dropLast))) := (by have h1 := Own.take (vs := bv (join st)) (by rw [bv_len]; exact HO2.out) k (by rw [bv_len]; exact hkl); have h2 : (bv (join st)).take k = bv (join st.dropLast) := (by unfold bv; rw [← List.map_take, HTK.out]); rw [h2] at h1; exact h1)))
          exact ⟨HFin.out _ _ HO5.out HB2.out hs2, HME.out⟩
        · have HFin : Hid (∀ v w', Own w' w.heap.size 5 v (bv (join (st.dropLast ++ [[]]))) → Below w.heap.size w w' → w.heap.size ≤ w'.heap.size → DotsAt l w w.heap.size (.string (strN [])) v (.bool false) w') := by
            intro v w' h1 h2 h3
            refine ⟨st.dropLast ++ [[]], [], false, rfl, rfl, (by intro c hc; cases hc), HJb1.out, H471.out, h1, h2, h3, .inr ⟨rfl, ?_⟩⟩
            rw [HG0.out, hm1, dotsGo_one, if_neg (by rw [HK.out]; decide), if_pos HK.out]
          clear hm1 HG0 hk1 hk2 hrow hc2 hc1
          go_wp2_with (first | (go_at_call 45; refine Calls.mono HCut2.out ?_; rintro e w2 ⟨rfl, hb2⟩; have HB2 : Hid _ := HB.out.trans (hb2.mono HB.out.size); have HO2 : Hid _ := Own.later HO.out hb2; have hs2 := HB2.out.size; have HR2 : Hid _ := VRow.later HR.out hb2; clear hb2) | (go_at_call 82; refine Calls.mono (lastIndexByte_any ao cap 47 (join st) res _ HR2.out HC1.out HC2.out (by decide) HJB.out HLA.out) ?_; rintro e w5 ⟨rfl, h5w⟩; subst w5; have HO5 : Hid (Own w2 w.heap.size 5 (.slice ao k cap) (bv (join st.dropLast))) := (by have h1 := Own.take (vs := bv (join st)) (by rw [bv_len]; exact HO2.out) k (by rw [bv_len]; exact hkl); have h2 : (bv (join st)).take k = bv (join st.dropLast) := (by unfold bv; rw [← List.map_take, HTK.out]); rw [h2] at h1; exact h1)) | (at_builtin; refine wpList_app_u8 rfl _ (.tmp 26) rfl w.heap.size _ (bv (join st.dropLast)) (.int .u8 47) rfl (Own.alloc HO5.out _) _ rfl (by simp) rfl (by rw [bv_len]; omega) (by simp; omega) ?_; intro v3 w3 hown3 hgrow3; have HO3 : Hid (Own w3 w.heap.size 5 v3 (bv (join (st.dropLast ++ [[]])))) := (by show Own _ _ _ _ _; rw [HJ1.out, bv_app]; exact hown3); have HB3 : Hid (Below w.heap.size w w3) := Own.below (Own.alloc HO5.out _) hgrow3 (HB2.out.alloc hs2 _) (by simp; omega); have hs3 := HB3.out.size; clear hown3 hgrow3))
          exact ⟨HFin.out _ _ HO3.out HB3.out hs3, HME.out⟩
      · -- one dot
        rw [decide_eq_false hk2] at hq2
        rw [decide_eq_true hk1] at hq1
        have HK : Hid _ := hk1
        have HR : Hid _ := hrow
        have HC2 : Hid _ := hc2
        have HC1 : Hid _ := hc1
        have HLe : Hid ((join st).length ≤ (join st).length) := Nat.le_refl _
        have HJb : Hid _ := hjb
        have H47 : Hid _ := h47
        have HJ1 : Hid (join (st ++ [[]]) = join (st) ++ [47]) := by show _ = _; rw [AddrMath.join_app, AddrMath.join_one]
        have H471 : Hid (∀ x ∈ st ++ [[]], No (is 47) x) := by
          intro x hx
          rcases List.mem_append.1 hx with h | h
          · exact H47.out x h
          · simp at h; subst h; exact No.nil _
        have HJb1 : Hid (∀ c ∈ join (st ++ [[]]), c < 256) := by
          intro c hc
          rw [HJ1.out] at hc
          rcases List.mem_append.1 hc with h | h
          · exact HJb.out c h
          · simp at h; omega
        rcases hmore2 with ⟨rfl, hm1, hm2, hm3⟩ | ⟨rfl, hm1, rfl⟩
        · have HFin : Hid (∀ v w', Own w' w.heap.size 5 v (bv (join (st))) → Below w.heap.size w w' → w.heap.size ≤ w'.heap.size → DotsAt l w w.heap.size (.string (strN t)) v (.bool true) w') := by
            intro v w' h1 h2 h3
            refine ⟨st, t, true, rfl, rfl, hm3, HJb.out, H47.out, h1, h2, h3, .inl ⟨rfl, ?_, ?_⟩⟩
            · rw [HG0.out, hm1, dotsGo_more, if_pos HK.out]
            · have := HLe.out; omega
          clear hm1 hm2 hm3 HG0 hk1 hk2 hrow hc2 hc1
          go_wp2_with (first | (go_at_call 45; refine Calls.mono HCut2.out ?_; rintro e w2 ⟨rfl, hb2⟩; have HB2 : Hid _ := HB.out.trans (hb2.mono HB.out.size); have HO2 : Hid _ := Own.later HO.out hb2; have hs2 := HB2.out.size; have HR2 : Hid _ := VRow.later HR.out hb2; clear hb2))
          exact ⟨HFin.out _ _ HO2.out HB2.out hs2, HME.out⟩
        · have HFin : Hid (∀ v w', Own w' w.heap.size 5 v (bv (join (st ++ [[]]))) → Below w.heap.size w w' → w.heap.size ≤ w'.heap.size → DotsAt l w w.heap.size (.string (strN [])) v (.bool false) w') := by
            intro v w' h1 h2 h3
            refine ⟨st ++ [[]], [], false, rfl, rfl, (by intro c hc; cases hc), HJb1.out, H471.out, h1, h2, h3, .inr ⟨rfl, ?_⟩⟩
            rw [HG0.out, hm1, dotsGo_one, if_pos HK.out]
          clear hm1 HG0 hk1 hk2 hrow hc2 hc1
          go_wp2_with (first | (go_at_call 45; refine Calls.mono HCut2.out ?_; rintro e w2 ⟨rfl, hb2⟩; have HB2 : Hid _ := HB.out.trans (hb2.mono HB.out.size); have HO2 : Hid _ := Own.later HO.out hb2; have hs2 := HB2.out.size; have HR2 : Hid _ := VRow.later HR.out hb2; clear hb2) | (at_builtin; refine wpList_app_u8 rfl _ (.tmp 26) rfl w.heap.size _ (bv (join st)) (.int .u8 47) rfl (Own.alloc HO2.out _) _ rfl (by simp) rfl (by rw [bv_len]; omega) (by simp; omega) ?_; intro v3 w3 hown3 hgrow3; have HO3 : Hid (Own w3 w.heap.size 5 v3 (bv (join (st ++ [[]])))) := (by show Own _ _ _ _ _; rw [HJ1.out, bv_app]; exact hown3); have HB3 : Hid (Below w.heap.size w w3) := Own.below (Own.alloc HO2.out _) hgrow3 (HB2.out.alloc hs2 _) (by simp; omega); have hs3 := HB3.out.size; clear hown3 hgrow3))
          exact ⟨HFin.out _ _ HO3.out HB3.out hs3, HME.out⟩
      · -- a segment that stays
        rw [decide_eq_false hk1] at hq2
        rw [decide_eq_false hk2] at hq1
        have HK1 : Hid _ := hk1
        have HK2 : Hid _ := hk2
        clear hk1 hk2
        have hgl : g.length ≤ 100000 := by omega
        have HJ : Hid (join (st ++ [g]) = (join st ++ [47]) ++ g) := by show _ = _; rw [AddrMath.join_app, AddrMath.join_one]; simp
        have HJb : Hid (∀ c ∈ join (st ++ [g]), c < 256) := by
          intro c hc
          rw [HJ.out] at hc
          rcases List.mem_append.1 hc with h | h
          · rcases List.mem_append.1 h with h | h
            · exact hjb c h
            · simp at h; omega
          · exact hpb c h
        have H47 : Hid (∀ x ∈ st ++ [g], No (is 47) x) := by
          intro x hx
          rcases List.mem_append.1 hx with h | h
          · exact h47 x h
          · simp at h; subst h; exact hp47
        have HFin : Hid (∀ v w', Own w' w.heap.size 5 v (bv (join (st ++ [g]))) → Below w.heap.size w w' → w.heap.size ≤ w'.heap.size → DotsAt l w w.heap.size (.string (strN t)) v (.bool M) w') := by
          intro v w' h1 h2 h3
          refine ⟨st ++ [g], t, M, rfl, rfl, ?_, HJb.out, H47.out, h1, h2, h3, ?_⟩
          · rcases hmore2 with ⟨_, _, _, h⟩ | ⟨_, _, h⟩
            · exact h
            · rw [h]; intro c hc; cases hc
          · rcases hmore2 with ⟨rfl, h4, h5, _⟩ | ⟨rfl, h4, _⟩
            · left
              refine ⟨rfl, ?_, ?_⟩
              · rw [HG0.out, h4, dotsGo_more, if_neg HK2.out, if_neg HK1.out]
              · rw [HJ.out]; simp; omega
            · right
              refine ⟨rfl, ?_⟩
              rw [HG0.out, h4, dotsGo_one, if_neg HK2.out, if_neg HK1.out]
        clear hmore2 HG0 HJb H47
        go_wp2_with (first | (go_at_call 45; refine Calls.mono HCut2.out ?_; rintro e w2 ⟨rfl, hb2⟩; have HB2 : Hid _ := HB.out.trans (hb2.mono HB.out.size); have HO2 : Hid _ := Own.later HO.out hb2; have hs2 := HB2.out.size; clear hb2) | (at_builtin; refine wpList_app_u8 rfl _ (.tmp 29) rfl w.heap.size _ (bv (join st)) (.int .u8 47) rfl (Own.alloc HO2.out _) _ rfl (by simp) rfl (by rw [bv_len]; omega) (by simp; omega) ?_; intro v3 w3 hown3 hgrow3; have HO3 : Hid (Own w3 w.heap.size 5 v3 (bv (join st ++ [47]))) := (by show Own _ _ _ _ _; rw [bv_app]; exact hown3); have HB3 : Hid (Below w.heap.size w w3) := Own.below (Own.alloc HO2.out _) hgrow3 (HB2.out.alloc hs2 _) (by simp; omega); have hs3 := HB3.out.size; clear hown3 hgrow3) | (at_builtin; refine wpList_app_text rfl _ _ rfl w.heap.size _ (join st ++ [47]) g rfl HO3.out rfl hpb (by simp; omega) hs3 ?_; intro v4 w4 hown4 hgrow4; have HO4 : Hid (Own w4 w.heap.size 5 v4 (bv (join (st ++ [g])))) := (by show Own _ _ _ _ _; rw [HJ.out]; exact hown4); have HB4 : Hid (Below w.heap.size w w4) := Own.below HO3.out hgrow4 HB3.out hs3; have hs4 := HB4.out.size; clear hown4 hgrow4))
        exact ⟨HFin.out _ _ HO4.out HB4.out hs4, HME.out⟩
    · have HF : Hid (strN (dots l) = strN (join st)) := by show _ = _; rw [HD.out, hdots]
      have hstr := Own.str hown
      clear hown hbw hdots hjb h47
      go_wp2
      go_ret
      rw [HF.out]
      exact ⟨rfl, HB.out⟩
end Go.Proofs.YteockpllnhjooaaGreatDoor
namespace Go.Proofs.YteockpllnhjooaaGreatDoor
open Go.RowKit NumMath
open AddrMath (pre post is No Ends cut3 colon splitD lower way dots siteOk siteF combine finish parse parseP http https)
set_option maxRecDepth 100000
set_option linter.unusedVariables false
set_option linter.unusedSimpArgs false

theorem siteV_eq (sch site : List Nat) : siteV sch site = .tuple #[.string (strN (if siteOk site then siteF sch site else [])), .bool (siteOk site)] := by
  cases h : siteOk site with
  | true => rw [siteV_yes h]; rfl
  | false => rw [siteV_no h]; rfl
theorem wayV_eq (l : List Nat) : wayV l = .tuple #[.string (strN ((way true l).getD [])), .bool (way true l).isSome] := by
  cases h : way true l with
  | none => rw [wayV_none h]; rfl
  | some f => rw [wayV_some h]; rfl
theorem combine_flat (sch site pa qu : List Nat) : combine sch (pre (is 58) site) (post (is 58) site) pa qu = if (siteOk site && (way true pa.tail).isSome && (way true qu.tail).isSome) = true then some (((sch ++ colon) ++ (if siteOk site then siteF sch site else [])) ++ dots ((way true pa.tail).getD []) ++ (if qu = [] then [] else 63 :: (way true qu.tail).getD [])) else none := by
  rw [AddrMath.combine_site]
  cases siteOk site with
  | false => rfl
  | true => cases way true pa.tail with
    | none => rfl
    | some p => cases way true qu.tail with
      | none => rfl
      | some y => simp
/-- What Parse answers. -/
def parseV (s : List Nat) : Value := .tuple #[.string (strN (parse s).1), .int .i64 (((parse s).2 : Nat) : Int)]

set_option maxRecDepth 100000 in
set_option maxHeartbeats 8000000 in
theorem parse_any (s : List Nat) (w : World) (ht : MaxLen w) (hb : ∀ c ∈ s, c < 256) (hm : s.length ≤ 10000) :
    Calls Tryz.prog 24 #[.string (strN s)] w fun e w' => e = .returned (parseV s) ∧ Below w.heap.size w w' := by
  have HT : Hid _ := ht
  have HP : Hid _ := AddrMath.parseP_is s
  have HV : Hid (parseV s = .tuple #[.string (strN (parse s).1), .int .i64 (((parse s).2 : Nat) : Int)]) := rfl
  have HC1 : Hid (∀ w, MaxLen w → _) := fun w ht => cut1_any 35 (by decide) s hb w ht (by omega)
  have h0b : ∀ c ∈ pre (is 35) s, c < 256 := fun c hc => hb c (AddrMath.pre_mem hc)
  have h0l := AddrMath.pre_len (is 35) s
  have HPP : Hid (parseP s = match cut3 (pre (is 63) (pre (is 35) s)) with | none => ([], 25) | some (u, r) => if lower u = http ∨ lower u = https then finish (combine (lower u) (pre (is 58) (pre (is 47) r)) (post (is 58) (pre (is 47) r)) (post (is 47) r) (post (is 63) (pre (is 35) s))) else ([], 25)) := rfl
  generalize parseP s = R0 at *
  generalize (post (is 35) s).tail = frt at *
  generalize (!(post (is 35) s).isEmpty) = frb at *
  generalize pre (is 35) s = s0 at *
  have HC2 : Hid (∀ w, MaxLen w → _) := fun w ht => cut1_any 63 (by decide) s0 h0b w ht (by omega)
  have h1b : ∀ c ∈ pre (is 63) s0, c < 256 := fun c hc => h0b c (AddrMath.pre_mem hc)
  have h1l := AddrMath.pre_len (is 63) s0
  have hqb : ∀ c ∈ (post (is 63) s0).tail, c < 256 := fun c hc => h0b c (AddrMath.post_mem (List.mem_of_mem_tail hc))
  have hql := AddrMath.post_len (is 63) s0
  have hqt : (post (is 63) s0).tail.length ≤ 10000 := by rw [List.length_tail]; omega
  generalize pre (is 63) s0 = s1 at *
  generalize hqu : post (is 63) s0 = qu at *
  have HC3 : Hid (∀ w, MaxLen w → _) := fun w ht => cutC_any s1 h1b w ht (by omega)
  clear ht
  cases hc3 : cut3 s1 with
  | none =>
    have hcv : cutV s1 = .tuple #[.string (strN s1), .string (strN []), .bool false] := by unfold cutV; rw [hc3]
    rw [hcv] at HC3
    have HF : Hid (parseV s = .tuple #[.string (strN []), .int .i64 25]) := by
      show _ = _
      have e : parse s = ([], 25) := by rw [← HP.out, HPP.out, hc3]
      rw [HV.out, e]; rfl
    have HC4 : Hid (∀ w, MaxLen w → Calls Tryz.prog 45 #[.string (strN []), .string (strN [47])] w fun e w' => e = .returned (.tuple #[.string (strN []), .string (strN []), .bool false]) ∧ Below w.heap.size w w') := fun w ht => cut1_any 47 (by decide) [] (by simp) w ht (by simp)
    have HSm : Hid (∀ w, _) := fun w => small_any s1 w h1b (by omega)
    clear hcv hc3 HPP HP HV
    go_enter Tryz.func24, Tryz.ntmps24
    go_wp2_with fail
    refine Calls.mono (HC1.out _ HT.out) ?_
    rintro e w1 ⟨rfl, hb1⟩
    have HB1 : Hid _ := hb1
    clear hb1
    go_wp2_with fail
    refine Calls.mono (HC2.out _ (MaxLen.later HT.out HB1.out)) ?_
    rintro e w2 ⟨rfl, hb2⟩
    have HB2 : Hid _ := HB1.out.trans (hb2.mono HB1.out.size)
    clear hb2
    go_wp2_with fail
    refine Calls.mono (HC3.out _ (MaxLen.later HT.out HB2.out)) ?_
    rintro e w3 ⟨rfl, hb3⟩
    have HB3 : Hid _ := HB2.out.trans (hb3.mono HB2.out.size)
    clear hb3
    go_wp2_with fail
    refine Calls.mono (HC4.out _ (MaxLen.later HT.out HB3.out)) ?_
    rintro e w4 ⟨rfl, hb4⟩
    have HB4 : Hid _ := HB3.out.trans (hb4.mono HB3.out.size)
    clear hb4
    go_wp2_with fail
    refine Calls.mono (HSm.out _) ?_
    rintro e w5 ⟨rfl, hb5⟩
    have HB5 : Hid _ := HB4.out.trans (hb5.mono HB4.out.size)
    clear hb5
    go_wp2
    go_ret2
    rw [HF.out]
    exact ⟨rfl, HB5.out⟩
  | some ur =>
    obtain ⟨u, r⟩ := ur
    have hcv : cutV s1 = .tuple #[.string (strN u), .string (strN r), .bool true] := by unfold cutV; rw [hc3]
    rw [hcv] at HC3
    have hes := AddrMath.cut3_some hc3
    have hub : ∀ c ∈ u, c < 256 := fun c hc => h1b c (by rw [hes]; simp [hc])
    have hrb : ∀ c ∈ r, c < 256 := fun c hc => h1b c (by rw [hes]; simp [hc])
    have hul : u.length ≤ 10000 ∧ r.length ≤ 10000 := by have := congrArg List.length hes; simp at this; omega
    have HP2 : Hid (parse s = if lower u = http ∨ lower u = https then finish (combine (lower u) (pre (is 58) (pre (is 47) r)) (post (is 58) (pre (is 47) r)) (post (is 47) r) qu) else ([], 25)) := by
      show _ = _
      rw [← HP.out, HPP.out, hc3]
    have HC4 : Hid (∀ w, MaxLen w → _) := fun w ht => cut1_any 47 (by decide) r hrb w ht (by omega)
    have hsb : ∀ c ∈ pre (is 47) r, c < 256 := fun c hc => hrb c (AddrMath.pre_mem hc)
    have hsl := AddrMath.pre_len (is 47) r
    have hpb : ∀ c ∈ (post (is 47) r).tail, c < 256 := fun c hc => hrb c (AddrMath.post_mem (List.mem_of_mem_tail hc))
    have hpl := AddrMath.post_len (is 47) r
    have hpt : (post (is 47) r).tail.length ≤ 10000 := by rw [List.length_tail]; omega
    have HSm : Hid (∀ w, _) := fun w => small_any u w hub (by omega)
    have hUb := AddrMath.lower_lt hub
    have hUl := AddrMath.lower_len u
    generalize lower u = U at *
    generalize pre (is 47) r = site at *
    generalize post (is 47) r = pa at *
    have hq1 := eq_lit http [104, 116, 116, 112] rfl hUb (by decide)
    have hq2 := eq_lit https [104, 116, 116, 112, 115] rfl hUb (by decide)
    have hn1 : ((strN U).toList != [104, 116, 116, 112]) = !decide (U = http) := by rw [bne, hq1]
    have hn2 : ((strN U).toList != [104, 116, 116, 112, 115]) = !decide (U = https) := by rw [bne, hq2]
    clear hcv hc3 HPP HP hes
    by_cases hS : U = http ∨ U = https
    · have HP3 : Hid (parse s = finish (combine U (pre (is 58) site) (post (is 58) site) pa qu)) := by show _ = _; rw [HP2.out, if_pos hS]
      have hSl : U.length ≤ 5 := by rcases hS with h | h <;> rw [h] <;> decide
      have hs1000 : site.length ≤ 10000 := by omega
      have HSF : Hid (∀ w, MaxLen w → _) := fun w ht => siteForm_any site U w ht hsb hUb hs1000
      have HW1 : Hid (∀ w, _) := fun w => runesForm_any pa.tail w hpb (by omega)
      have HW2 : Hid (∀ w, _) := fun w => runesForm_any qu.tail w hqb (by omega)
      rw [siteV_eq] at HSF
      rw [wayV_eq] at HW1 HW2
      rw [combine_flat] at HP3
      have hX1b : ∀ c ∈ (if siteOk site then AddrMath.siteF U site else []), c < 256 := by
        split
        · exact AddrMath.siteF_lt hsb
        · intro c hc; cases hc
      have hX1l : (if siteOk site then AddrMath.siteF U site else []).length ≤ 10000 := by
        split
        · have := AddrMath.siteF_len U site; omega
        · simp
      have hwl : ∀ l : List Nat, (∀ c ∈ l, c < 256) → l.length ≤ 10000 → (∀ c ∈ (way true l).getD [], c < 256) ∧ ((way true l).getD []).length ≤ 30000 := by
        intro l h1 h2
        cases hw : way true l with
        | none => exact ⟨(by intro c hc; cases hc), by simp⟩
        | some f =>
          have h3 := AddrMath.way_len l.length l f (Nat.le_refl _) hw
          exact ⟨AddrMath.norm_lt (AddrMath.norm_way l.length l f (Nat.le_refl _) hw), by show f.length ≤ 30000; omega⟩
      obtain ⟨hX2b, hX2l⟩ := hwl pa.tail hpb hpt
      obtain ⟨hX3b, hX3l⟩ := hwl qu.tail hqb hqt
      clear hwl
      generalize (if siteOk site then AddrMath.siteF U site else []) = X1 at *
      generalize siteOk site = b1 at *
      generalize (way true pa.tail).getD [] = X2 at *
      generalize (way true pa.tail).isSome = b2 at *
      generalize (way true qu.tail).getD [] = X3 at *
      generalize (way true qu.tail).isSome = b3 at *
      have HWD : Hid (∀ w, MaxLen w → _) := fun w ht => withoutDots_any X2 w ht hX2b (by omega)
      have hDl := AddrMath.dots_len X2
      have hDb := AddrMath.dots_lt hX2b
      generalize dots X2 = D at *
      obtain ⟨F1, hF1⟩ : ∃ F, F = U ++ colon := ⟨_, rfl⟩
      obtain ⟨F2, hF2⟩ : ∃ F, F = F1 ++ X1 := ⟨_, rfl⟩
      obtain ⟨F3, hF3⟩ : ∃ F, F = F2 ++ D := ⟨_, rfl⟩
      obtain ⟨Q, hQ⟩ : ∃ Q, Q = 63 :: X3 := ⟨_, rfl⟩
      obtain ⟨F4, hF4⟩ : ∃ F, F = F3 ++ Q := ⟨_, rfl⟩
      have hl1 : F1.length ≤ 8 := by rw [hF1]; simp [colon]; omega
      have hl2 : F2.length ≤ 10008 := by rw [hF2]; simp; omega
      have hl3 : F3.length ≤ 50000 := by rw [hF3]; simp; omega
      have hlQ : Q.length ≤ 30001 := by rw [hQ]; simp; omega
      have hl4 : F4.length ≤ 90000 := by rw [hF4]; simp; omega
      have hc1 : ∀ w, (Op.stringOp BinOp.add (strN U) ⟨#[58, 47, 47]⟩).run Tryz.prog w = .ok (.string (strN F1)) w := by rw [hF1]; exact sum_strN U colon (by simp [colon]; omega)
      have hc2 : ∀ w, (Op.stringOp BinOp.add (strN F1) (strN X1)).run Tryz.prog w = .ok (.string (strN F2)) w := by rw [hF2]; exact sum_strN F1 X1 (by omega)
      have hc3 : ∀ w, (Op.stringOp BinOp.add (strN F2) (strN D)).run Tryz.prog w = .ok (.string (strN F3)) w := by rw [hF3]; exact sum_strN F2 D (by omega)
      have hcq : ∀ w, (Op.stringOp BinOp.add ⟨#[63]⟩ (strN X3)).run Tryz.prog w = .ok (.string (strN Q)) w := by rw [hQ]; exact sum_strN [63] X3 (by simp; omega)
      have hc4 : ∀ w, (Op.stringOp BinOp.add (strN F3) (strN Q)).run Tryz.prog w = .ok (.string (strN F4)) w := by rw [hF4]; exact sum_strN F3 Q (by omega)
      have hz3 := strN_size F3
      have hz4 := strN_size F4
      have HP4 : Hid (parse s = finish (if (b1 && b2 && b3) = true then some (if qu = [] then F3 else F4) else none)) := by
        show _ = _
        rw [HP3.out, hF4, hQ, hF3, hF2, hF1]
        congr 2
        split
        · simp
        · simp
      clear hF1 hF2 hF3 hF4 hQ HP3 HP2
      obtain ⟨k1, k2, hk1, hk2, hkk⟩ : ∃ k1 k2 : Bool, ((strN U).toList == [104, 116, 116, 112]) = k1 ∧ ((strN U).toList == [104, 116, 116, 112, 115]) = k2 ∧ (k1 = true ∨ (k1 = false ∧ k2 = true)) := by
        refine ⟨_, _, hq1, hq2, ?_⟩
        rcases hS with h | h
        · left; exact decide_eq_true h
        · right; refine ⟨decide_eq_false (by rw [h]; decide), decide_eq_true h⟩
      clear hq1 hq2 hn1 hn2 hS
      have hqe : qu.isEmpty = decide (qu = []) := by cases qu <;> rfl
      rw [hqe] at HC2
      rcases hkk with rfl | ⟨rfl, rfl⟩
      all_goals
        go_enter Tryz.func24, Tryz.ntmps24
        go_wp2_with fail
        refine Calls.mono (HC1.out _ HT.out) ?_
        rintro e w1 ⟨rfl, hb1⟩
        have HB1 : Hid _ := hb1
        clear hb1
        go_wp2_with fail
        refine Calls.mono (HC2.out _ (MaxLen.later HT.out HB1.out)) ?_
        rintro e w2 ⟨rfl, hb2⟩
        have HB2 : Hid _ := HB1.out.trans (hb2.mono HB1.out.size)
        clear hb2
        go_wp2_with fail
        refine Calls.mono (HC3.out _ (MaxLen.later HT.out HB2.out)) ?_
        rintro e w3 ⟨rfl, hb3⟩
        have HB3 : Hid _ := HB2.out.trans (hb3.mono HB2.out.size)
        clear hb3
        go_wp2_with fail
        refine Calls.mono (HC4.out _ (MaxLen.later HT.out HB3.out)) ?_
        rintro e w4 ⟨rfl, hb4⟩
        have HB4 : Hid _ := HB3.out.trans (hb4.mono HB3.out.size)
        clear hb4
        go_wp2_with fail
        refine Calls.mono (HSm.out _) ?_
        rintro e w5 ⟨rfl, hb5⟩
        have HB5 : Hid _ := HB4.out.trans (hb5.mono HB4.out.size)
        clear hb5
        go_wp2_with fail
        refine Calls.mono (HSF.out _ (MaxLen.later HT.out HB5.out)) ?_
        rintro e w6 ⟨rfl, hb6⟩
        have HB6 : Hid _ := HB5.out.trans (hb6.mono HB5.out.size)
        clear hb6
        go_wp2_with fail
        refine Calls.mono (HW1.out _) ?_
        rintro e w7 ⟨rfl, hb7⟩
        have HB7 : Hid _ := HB6.out.trans (hb7.mono HB6.out.size)
        clear hb7
        go_wp2_with fail
        refine Calls.mono (HW2.out _) ?_
        rintro e w8 ⟨rfl, hb8⟩
        have HB8 : Hid _ := HB7.out.trans (hb8.mono HB7.out.size)
        clear hb8
        cases b1 with
        | false =>
          have HF : Hid (parseV s = .tuple #[.string (strN []), .int .i64 25]) := by show _ = _; rw [HV.out, HP4.out]; rfl
          go_wp2
          go_ret2
          rw [HF.out]
          exact ⟨rfl, HB8.out⟩
        | true =>
          cases b2 with
          | false =>
            have HF : Hid (parseV s = .tuple #[.string (strN []), .int .i64 25]) := by show _ = _; rw [HV.out, HP4.out]; rfl
            go_wp2
            go_ret2
            rw [HF.out]
            exact ⟨rfl, HB8.out⟩
          | true =>
            cases b3 with
            | false =>
              have HF : Hid (parseV s = .tuple #[.string (strN []), .int .i64 25]) := by show _ = _; rw [HV.out, HP4.out]; rfl
              go_wp2
              go_ret2
              rw [HF.out]
              exact ⟨rfl, HB8.out⟩
            | true =>
              by_cases hqn : qu = []
              · have HP5 : Hid (parse s = finish (some F3)) := by show _ = _; rw [HP4.out, if_pos hqn]; rfl
                rw [decide_eq_true hqn]
                clear HP4 hqn hqe hqu
                by_cases h200 : 200 < F3.length
                · have HF : Hid (parseV s = .tuple #[.string (strN []), .int .i64 23]) := by
                    show _ = _
                    have e : parse s = ([], 23) := by rw [HP5.out]; show (if F3.length ≤ 200 then (F3, 0) else ([], 23)) = _; rw [if_neg (by omega)]
                    rw [HV.out, e]; rfl
                  go_wp2_with fail
                  refine Calls.mono (HWD.out _ (MaxLen.later HT.out HB8.out)) ?_
                  rintro e w9 ⟨rfl, hb9⟩
                  have HB9 : Hid _ := HB8.out.trans (hb9.mono HB8.out.size)
                  clear hb9
                  go_wp2
                  go_ret2
                  rw [HF.out]
                  exact ⟨rfl, HB9.out⟩
                · have HF : Hid (parseV s = .tuple #[.string (strN F3), .int .i64 0]) := by
                    show _ = _
                    have e : parse s = (F3, 0) := by rw [HP5.out]; show (if F3.length ≤ 200 then (F3, 0) else ([], 23)) = _; rw [if_pos (by omega)]
                    rw [HV.out, e]; rfl
                  go_wp2_with fail
                  refine Calls.mono (HWD.out _ (MaxLen.later HT.out HB8.out)) ?_
                  rintro e w9 ⟨rfl, hb9⟩
                  have HB9 : Hid _ := HB8.out.trans (hb9.mono HB8.out.size)
                  clear hb9
                  go_wp2
                  go_ret2
                  rw [HF.out]
                  exact ⟨rfl, HB9.out⟩
              · have HP5 : Hid (parse s = finish (some F4)) := by show _ = _; rw [HP4.out, if_neg hqn]; rfl
                rw [decide_eq_false hqn]
                clear HP4 hqn hqe hqu
                by_cases h200 : 200 < F4.length
                · have HF : Hid (parseV s = .tuple #[.string (strN []), .int .i64 23]) := by
                    show _ = _
                    have e : parse s = ([], 23) := by rw [HP5.out]; show (if F4.length ≤ 200 then (F4, 0) else ([], 23)) = _; rw [if_neg (by omega)]
                    rw [HV.out, e]; rfl
                  go_wp2_with fail
                  refine Calls.mono (HWD.out _ (MaxLen.later HT.out HB8.out)) ?_
                  rintro e w9 ⟨rfl, hb9⟩
                  have HB9 : Hid _ := HB8.out.trans (hb9.mono HB8.out.size)
                  clear hb9
                  go_wp2
                  go_ret2
                  rw [HF.out]
                  exact ⟨rfl, HB9.out⟩
                · have HF : Hid (parseV s = .tuple #[.string (strN F4), .int .i64 0]) := by
                    show _ = _
                    have e : parse s = (F4, 0) := by rw [HP5.out]; show (if F4.length ≤ 200 then (F4, 0) else ([], 23)) = _; rw [if_pos (by omega)]
                    rw [HV.out, e]; rfl
                  go_wp2_with fail
                  refine Calls.mono (HWD.out _ (MaxLen.later HT.out HB8.out)) ?_
                  rintro e w9 ⟨rfl, hb9⟩
                  have HB9 : Hid _ := HB8.out.trans (hb9.mono HB8.out.size)
                  clear hb9
                  go_wp2
                  go_ret2
                  rw [HF.out]
                  exact ⟨rfl, HB9.out⟩
    · have HF : Hid (parseV s = .tuple #[.string (strN []), .int .i64 25]) := by
        show _ = _
        have e : parse s = ([], 25) := by rw [HP2.out, if_neg hS]
        rw [HV.out, e]; rfl
      rw [decide_eq_false (fun e => hS (.inl e))] at hn1 hq1
      rw [decide_eq_false (fun e => hS (.inr e))] at hn2 hq2
      clear hS HP2 HV
      go_enter Tryz.func24, Tryz.ntmps24
      go_wp2_with fail
      refine Calls.mono (HC1.out _ HT.out) ?_
      rintro e w1 ⟨rfl, hb1⟩
      have HB1 : Hid _ := hb1
      clear hb1
      go_wp2_with fail
      refine Calls.mono (HC2.out _ (MaxLen.later HT.out HB1.out)) ?_
      rintro e w2 ⟨rfl, hb2⟩
      have HB2 : Hid _ := HB1.out.trans (hb2.mono HB1.out.size)
      clear hb2
      go_wp2_with fail
      refine Calls.mono (HC3.out _ (MaxLen.later HT.out HB2.out)) ?_
      rintro e w3 ⟨rfl, hb3⟩
      have HB3 : Hid _ := HB2.out.trans (hb3.mono HB2.out.size)
      clear hb3
      go_wp2_with fail
      refine Calls.mono (HC4.out _ (MaxLen.later HT.out HB3.out)) ?_
      rintro e w4 ⟨rfl, hb4⟩
      have HB4 : Hid _ := HB3.out.trans (hb4.mono HB3.out.size)
      clear hb4
      go_wp2_with fail
      refine Calls.mono (HSm.out _) ?_
      rintro e w5 ⟨rfl, hb5⟩
      have HB5 : Hid _ := HB4.out.trans (hb5.mono HB4.out.size)
      clear hb5
      go_wp2
      go_ret2
      rw [HF.out]
      exact ⟨rfl, HB5.out⟩
end Go.Proofs.YteockpllnhjooaaGreatDoor
namespace Go.Proofs.YteockpllnhjooaaGreatDoor
open Go.RowKit NumMath
open AddrMath (parse right hostOf)
set_option maxRecDepth 100000
set_option linter.unusedVariables false
set_option linter.unusedSimpArgs false

theorem parse_at (l f : List Nat) (k : Nat) (w : World) (ht : MaxLen w) (hb : ∀ c ∈ l, c < 256) (hm : l.length ≤ 10000) (h : parse l = (f, k)) :
    Calls Tryz.prog 24 #[.string (strN l)] w fun e w' => e = .returned (.tuple #[.string (strN f), .int .i64 (k : Int)]) ∧ Below w.heap.size w w' := by
  have := parse_any l w ht hb hm
  have e : parseV l = .tuple #[.string (strN f), .int .i64 (k : Int)] := by unfold parseV; rw [h]
  rw [e] at this
  exact this
end Go.Proofs.YteockpllnhjooaaGreatDoor

/-
  Walk of addr.withoutDots.
-/
import Derived.Test.YteockpllnhjooaaGreatDoorFnAddrG
namespace Go.Proofs.YteockpllnhjooaaGreatDoor
open Go.RowKit NumMath
open AddrMath (pre post is No Ends splitD dotsGo join dots)
set_option maxRecDepth 100000
set_option linter.unusedVariables false
set_option linter.unusedSimpArgs false

/-- What a round of withoutDots begins with. -/
def DotsAt (l : List Nat) (w : World) (base : Nat) (s v mo : Value) (wr : World) : Prop :=
  ∃ (st : List (List Nat)) (rest : List Nat) (b : Bool), s = .string (strN rest) ∧ mo = .bool b ∧ (∀ c ∈ rest, c < 256) ∧ (∀ c ∈ join st, c < 256) ∧ (∀ g ∈ st, No (is 47) g) ∧ Own wr base 5 v (bv (join st)) ∧ Below w.heap.size w wr ∧ base ≤ wr.heap.size ∧
    ((b = true ∧ dotsGo [] (splitD 47 l) = dotsGo st (splitD 47 rest) ∧ (join st).length + rest.length + 1 ≤ l.length + 1) ∨ (b = false ∧ dotsGo [] (splitD 47 l) = st))
section
variable {ops : Array Oper} {rest : List Oper} {o : Oper} {a : Act} {w : World} {Q : Exit → Act → World → Prop}
/-- append of a text. -/
theorem wpList_app_text (hgd : o.guard = none) (s x : Operand) (ho : o.op = .call { callee := .builtin .append, args := #[s, x], argTypes := #[48, 9] })
    (base : Nat) (v : Value) (l m : List Nat) (hs : a.eval s = v) (hown : Own w base 5 v (bv l)) (hx : a.eval x = .string (strN m)) (hm : ∀ c ∈ m, c < 256) (hl : l.length + m.length ≤ 1000000000) (hbase : base ≤ w.heap.size)
    (h : ∀ v' w', Own w' base 5 v' (bv (l ++ m)) → w.grownBy w' v.ownBlock → wpList Tryz.prog ops Q rest (a.put o.dst v') w') : wpList Tryz.prog ops Q (o :: rest) a w := by
  obtain ⟨i0, hi, hz0, hz1, hz2⟩ := info_parts Tryz.info5
  refine Lib.wpList_append_own_string w hgd s x 48 9 ho base 5 i0 Tryz.underlying48 Tryz.underlying9 hi hz0 hz1 hz2 v (bv l).length (bv l) hs hown (strN m) hx (by rw [bv_len, strN_size]; unfold maxLen; omega) (by rw [bv_len, strN_size]; omega) hbase ?_
  intro v' w' h1 h2 _
  refine h v' w' ?_ h2
  unfold Own
  rw [strN_size, strCells_strN m hm] at h1
  rw [bv_app, List.length_append, bv_len m]
  exact h1
end

set_option maxRecDepth 100000 in
set_option maxHeartbeats 8000000 in
theorem withoutDots_any (l : List Nat) (w : World) (ht : MaxLen w) (hb : ∀ c ∈ l, c < 256) (hm : l.length ≤ 100000) :
    Calls Tryz.prog 49 #[.string (strN l)] w fun e w' => e = .returned (.string (strN (dots l))) ∧ Below w.heap.size w w' := by
  have HT : Hid _ := ht
  have HD : Hid (dots l = join (dotsGo [] (splitD 47 l))) := rfl
  clear ht
  go_enter Tryz.func49, Tryz.ntmps49
  go_wp2
  go_loopw [0, 3, 4] (fun s v mo wr => DotsAt l w w.heap.size s v mo wr) (fun s _ mo _ => mdots s mo)
  case atStart => exact ⟨[], l, true, rfl, rfl, hb, (by intro c hc; cases hc), (by intro g hg; cases hg), Own.nil _ _ _, Below.refl _ _, Nat.le_refl _, .inl ⟨rfl, rfl, by simp [join]⟩⟩
  case round =>
    obtain ⟨st, rest, b, rfl, rfl, hrb, hjb, h47, hown, hbw, hsz, hst⟩ := hrel
    have HO : Hid _ := hown
    have HB : Hid _ := hbw
    rcases hst with ⟨rfl, hdots, hlen⟩ | ⟨rfl, hdots⟩
    · have HCut : Hid _ := cut1_any 47 (by decide) rest hrb wr (MaxLen.later HT.out hbw) (by omega)
      have HG0 : Hid _ := hdots
      have hpl := AddrMath.pre_len (is 47) rest
      have hpb : ∀ c ∈ pre (is 47) rest, c < 256 := fun c hc => hrb c (AddrMath.pre_mem hc)
      have hptb : ∀ c ∈ (post (is 47) rest).tail, c < 256 := fun c hc => hrb c (AddrMath.post_mem (List.mem_of_mem_tail hc))
      have hp47 := AddrMath.pre_no (is 47) rest
      have hpo := AddrMath.post_len (is 47) rest
      have HSP : Hid _ := splitD_pre 47 rest
      have hrsz := strN_size rest
      generalize pre (is 47) rest = g at *
      have hq2 := eq_lit [46, 46] [46, 46] rfl hpb (by decide)
      have hq1 := eq_lit [46] [46] rfl hpb (by decide)
      obtain ⟨ao, cap, hvv, hc1, hc2, hcn, hrow⟩ := Own.shape hown
      rw [bv_len] at hvv hc1
      subst hvv
      have hjl : (join st).length ≤ 100000 := by omega
      have HMs : Hid (∀ t : List Nat, ∀ bb : Bool, (bb = true → t.length < rest.length) → mdots (.string (strN t)) (.bool bb) < mdots (.string (strN rest)) (.bool true)) := by
        intro t bb hbb
        cases bb with
        | true => have := hbb rfl; show (strN t).size + 1 < (strN rest).size + 1; rw [strN_size, strN_size]; omega
        | false => show 0 < (strN rest).size + 1; omega
      clear hown hbw hdots
      -- the three kinds of segments
      have hkind : (g = [46, 46] ∧ ¬ g = [46]) ∨ (g = [46] ∧ ¬ g = [46, 46]) ∨ (¬ g = [46, 46] ∧ ¬ g = [46]) := by
        by_cases h1 : g = [46, 46]
        · left; exact ⟨h1, by rw [h1]; decide⟩
        · by_cases h2 : g = [46]
          · right; left; exact ⟨h2, h1⟩
          · right; right; exact ⟨h1, h2⟩
      have hmore : (post (is 47) rest = [] ∧ splitD 47 rest = [g]) ∨ (∃ t, post (is 47) rest = 47 :: t ∧ splitD 47 rest = g :: splitD 47 t ∧ t.length < rest.length) := HSP.out
      obtain ⟨M, t, hMt, HCut2, hmore2⟩ : ∃ (M : Bool) (t : List Nat), (M = true → t.length < rest.length) ∧ Hid (Calls Tryz.prog 45 #[.string (strN rest), .string (strN [47])] wr fun e w' => e = .returned (.tuple #[.string (strN g), .string (strN t), .bool M]) ∧ Below wr.heap.size wr w') ∧ ((M = true ∧ splitD 47 rest = g :: splitD 47 t ∧ g.length + 1 + t.length = rest.length ∧ ∀ c ∈ t, c < 256) ∨ (M = false ∧ splitD 47 rest = [g] ∧ t = [])) := by
        rcases hmore with ⟨h1, h2⟩ | ⟨t, h1, h2, h3⟩
        · refine ⟨false, [], by simp, ?_, .inr ⟨rfl, h2, rfl⟩⟩
          have := HCut.out
          rw [h1] at this
          exact this
        · refine ⟨true, t, fun _ => h3, ?_, .inl ⟨rfl, h2, ?_, ?_⟩⟩
          · have := HCut.out
            rw [h1] at this
            exact this
          · rw [h1] at hpo; simp at hpo; omega
          · rw [h1] at hptb; exact hptb
      have HME : Hid _ := HMs.out t M hMt
      clear HCut HSP hmore hMt HMs hptb hpo
      generalize post (is 47) rest = P at *
      rcases hkind with ⟨hk1, hk2⟩ | ⟨hk1, hk2⟩ | ⟨hk1, hk2⟩
      · -- two dots
        rw [decide_eq_true hk1] at hq2
        rw [decide_eq_false hk2] at hq1
        have HK : Hid _ := hk1
        have HR : Hid _ := hrow
        have HC2 : Hid _ := hc2
        have HC1 : Hid _ := hc1
        have HLe : Hid ((join st.dropLast).length ≤ (join st).length) := join_len_le st
        have HJb : Hid (∀ c ∈ join st.dropLast, c < 256) := by
          obtain ⟨_, k, _, _, h, _⟩ := lastAt_join h47
          intro c hc
          rw [← h] at hc
          exact hjb c (List.mem_of_mem_take hc)
        have H47 : Hid (∀ g ∈ st.dropLast, No (is 47) g) := fun g hg => h47 g (List.dropLast_subset _ hg)
        obtain ⟨res, k, hla, hmax, htk, hkl⟩ := lastAt_join h47
        have hrr := hla.range
        have HLA : Hid _ := hla
        have HTK : Hid _ := htk
        have HJB : Hid _ := hjb
        clear hla htk
        have hdl : (join st.dropLast).length ≤ 100000 := by have := HLe.out; omega
        have hkc : (k : Int) ≤ (cap : Int) := by omega
        have hkc2 : k ≤ cap := by omega
        have HJ1 : Hid (join (st.dropLast ++ [[]]) = join (st.dropLast) ++ [47]) := by show _ = _; rw [AddrMath.join_app, AddrMath.join_one]
        have H471 : Hid (∀ x ∈ st.dropLast ++ [[]], No (is 47) x) := by
          intro x hx
          rcases List.mem_append.1 hx with h | h
          · exact H47.out x h
          · simp at h; subst h; exact No.nil _
        have HJb1 : Hid (∀ c ∈ join (st.dropLast ++ [[]]), c < 256) := by
          intro c hc
          rw [HJ1.out] at hc
          rcases List.mem_append.1 hc with h | h
          · exact HJb.out c h
          · simp at h; omega
        rcases hmore2 with ⟨rfl, hm1, hm2, hm3⟩ | ⟨rfl, hm1, rfl⟩
        · have HFin : Hid (∀ v w', Own w' w.heap.size 5 v (bv (join (st.dropLast))) → Below w.heap.size w w' → w.heap.size ≤ w'.heap.size → DotsAt l w w.heap.size (.string (strN t)) v (.bool true) w') := by
            intro v w' h1 h2 h3
            refine ⟨st.dropLast, t, true, rfl, rfl, hm3, HJb.out, H47.out, h1, h2, h3, .inl ⟨rfl, ?_, ?_⟩⟩
            · rw [HG0.out, hm1, dotsGo_more, if_neg (by rw [HK.out]; decide), if_pos HK.out]
            · have := HLe.out; omega
          clear hm1 hm2 hm3 HG0 hk1 hk2 hrow hc2 hc1
          go_wp2_with (first | (go_at_call 45; refine Calls.mono HCut2.out ?_; rintro e w2 ⟨rfl, hb2⟩; have HB2 : Hid _ := HB.out.trans (hb2.mono HB.out.size); have HO2 : Hid _ := Own.later HO.out hb2; have hs2 := HB2.out.size; have HR2 : Hid _ := VRow.later HR.out hb2; clear hb2) | (go_at_call 82; refine Calls.mono (lastIndexByte_any ao cap 47 (join st) res _ HR2.out HC1.out HC2.out (by decide) HJB.out HLA.out) ?_; rintro e w5 ⟨rfl, h5w⟩; subst w5; have HO5 : Hid (Own w2 w.heap.size 5 (.slice ao k cap) (bv (join st.dropLast))) := (by have h1 := Own.take (vs := bv (join st)) (by rw [bv_len]; exact HO2.out) k (by rw [bv_len]; exact hkl); have h2 : (bv (join st)).take k = bv (join st.dropLast) := (by unfold bv; rw [← List.map_take, HTK.out]); rw [h2] at h1; exact h1)))
          exact ⟨HFin.out _ _ HO5.out HB2.out hs2, HME.out⟩
        · have HFin : Hid (∀ v w', Own w' w.heap.size 5 v (bv (join (st.dropLast ++ [[]]))) → Below w.heap.size w w' → w.heap.size ≤ w'.heap.size → DotsAt l w w.heap.size (.string (strN [])) v (.bool false) w') := by
            intro v w' h1 h2 h3
            refine ⟨st.dropLast ++ [[]], [], false, rfl, rfl, (by intro c hc; cases hc), HJb1.out, H471.out, h1, h2, h3, .inr ⟨rfl, ?_⟩⟩
            rw [HG0.out, hm1, dotsGo_one, if_neg (by rw [HK.out]; decide), if_pos HK.out]
          clear hm1 HG0 hk1 hk2 hrow hc2 hc1
          go_wp2_with (first | (go_at_call 45; refine Calls.mono HCut2.out ?_; rintro e w2 ⟨rfl, hb2⟩; have HB2 : Hid _ := HB.out.trans (hb2.mono HB.out.size); have HO2 : Hid _ := Own.later HO.out hb2; have hs2 := HB2.out.size; have HR2 : Hid _ := VRow.later HR.out hb2; clear hb2) | (go_at_call 82; refine Calls.mono (lastIndexByte_any ao cap 47 (join st) res _ HR2.out HC1.out HC2.out (by decide) HJB.out HLA.out) ?_; rintro e w5 ⟨rfl, h5w⟩; subst w5; have HO5 : Hid (Own w2 w.heap.size 5 (.slice ao k cap) (bv (join st.dropLast))) := (by have h1 := Own.take (vs := bv (join st)) (by rw [bv_len]; exact HO2.out) k (by rw [bv_len]; exact hkl); have h2 : (bv (join st)).take k = bv (join st.dropLast) := (by unfold bv; rw [← List.map_take, HTK.out]); rw [h2] at h1; exact h1)) | (at_builtin; refine wpList_app_u8 rfl _ (.tmp 26) rfl w.heap.size _ (bv (join st.dropLast)) (.int .u8 47) rfl (Own.alloc HO5.out _) _ rfl (by simp) rfl (by rw [bv_len]; omega) (by simp; omega) ?_; intro v3 w3 hown3 hgrow3; have HO3 : Hid (Own w3 w.heap.size 5 v3 (bv (join (st.dropLast ++ [[]])))) := (by show Own _ _ _ _ _; rw [HJ1.out, bv_app]; exact hown3); have HB3 : Hid (Below w.heap.size w w3) := Own.below (Own.alloc HO5.out _) hgrow3 (HB2.out.alloc hs2 _) (by simp; omega); have hs3 := HB3.out.size; clear hown3 hgrow3))
          exact ⟨HFin.out _ _ HO3.out HB3.out hs3, HME.out⟩
      · -- one dot
        rw [decide_eq_false hk2] at hq2
        rw [decide_eq_true hk1] at hq1
        have HK : Hid _ := hk1
        have HR : Hid _ := hrow
        have HC2 : Hid _ := hc2
        have HC1 : Hid _ := hc1
        have HLe : Hid ((join st).length ≤ (join st).length) := Nat.le_refl _
        have HJb : Hid _ := hjb
        have H47 : Hid _ := h47
        have HJ1 : Hid (join (st ++ [[]]) = join (st) ++ [47]) := by show _ = _; rw [AddrMath.join_app, AddrMath.join_one]
        have H471 : Hid (∀ x ∈ st ++ [[]], No (is 47) x) := by
          intro x hx
          rcases List.mem_append.1 hx with h | h
          · exact H47.out x h
          · simp at h; subst h; exact No.nil _
        have HJb1 : Hid (∀ c ∈ join (st ++ [[]]), c < 256) := by
          intro c hc
          rw [HJ1.out] at hc
          rcases List.mem_append.1 hc with h | h
          · exact HJb.out c h
          · simp at h; omega
        rcases hmore2 with ⟨rfl, hm1, hm2, hm3⟩ | ⟨rfl, hm1, rfl⟩
        · have HFin : Hid (∀ v w', Own w' w.heap.size 5 v (bv (join (st))) → Below w.heap.size w w' → w.heap.size ≤ w'.heap.size → DotsAt l w w.heap.size (.string (strN t)) v (.bool true) w') := by
            intro v w' h1 h2 h3
            refine ⟨st, t, true, rfl, rfl, hm3, HJb.out, H47.out, h1, h2, h3, .inl ⟨rfl, ?_, ?_⟩⟩
            · rw [HG0.out, hm1, dotsGo_more, if_pos HK.out]
            · have := HLe.out; omega
          clear hm1 hm2 hm3 HG0 hk1 hk2 hrow hc2 hc1
          go_wp2_with (first | (go_at_call 45; refine Calls.mono HCut2.out ?_; rintro e w2 ⟨rfl, hb2⟩; have HB2 : Hid _ := HB.out.trans (hb2.mono HB.out.size); have HO2 : Hid _ := Own.later HO.out hb2; have hs2 := HB2.out.size; have HR2 : Hid _ := VRow.later HR.out hb2; clear hb2))
          exact ⟨HFin.out _ _ HO2.out HB2.out hs2, HME.out⟩
        · have HFin : Hid (∀ v w', Own w' w.heap.size 5 v (bv (join (st ++ [[]]))) → Below w.heap.size w w' → w.heap.size ≤ w'.heap.size → DotsAt l w w.heap.size (.string (strN [])) v (.bool false) w') := by
            intro v w' h1 h2 h3
            refine ⟨st ++ [[]], [], false, rfl, rfl, (by intro c hc; cases hc), HJb1.out, H471.out, h1, h2, h3, .inr ⟨rfl, ?_⟩⟩
            rw [HG0.out, hm1, dotsGo_one, if_pos HK.out]
          clear hm1 HG0 hk1 hk2 hrow hc2 hc1
          go_wp2_with (first | (go_at_call 45; refine Calls.mono HCut2.out ?_; rintro e w2 ⟨rfl, hb2⟩; have HB2 : Hid _ := HB.out.trans (hb2.mono HB.out.size); have HO2 : Hid _ := Own.later HO.out hb2; have hs2 := HB2.out.size; have HR2 : Hid _ := VRow.later HR.out hb2; clear hb2) | (at_builtin; refine wpList_app_u8 rfl _ (.tmp 26) rfl w.heap.size _ (bv (join st)) (.int .u8 47) rfl (Own.alloc HO2.out _) _ rfl (by simp) rfl (by rw [bv_len]; omega) (by simp; omega) ?_; intro v3 w3 hown3 hgrow3; have HO3 : Hid (Own w3 w.heap.size 5 v3 (bv (join (st ++ [[]])))) := (by show Own _ _ _ _ _; rw [HJ1.out, bv_app]; exact hown3); have HB3 : Hid (Below w.heap.size w w3) := Own.below (Own.alloc HO2.out _) hgrow3 (HB2.out.alloc hs2 _) (by simp; omega); have hs3 := HB3.out.size; clear hown3 hgrow3))
          exact ⟨HFin.out _ _ HO3.out HB3.out hs3, HME.out⟩
      · -- a segment that stays
        rw [decide_eq_false hk1] at hq2
        rw [decide_eq_false hk2] at hq1
        have HK1 : Hid _ := hk1
        have HK2 : Hid _ := hk2
        clear hk1 hk2
        have hgl : g.length ≤ 100000 := by omega
        have HJ : Hid (join (st ++ [g]) = (join st ++ [47]) ++ g) := by show _ = _; rw [AddrMath.join_app, AddrMath.join_one]; simp
        have HJb : Hid (∀ c ∈ join (st ++ [g]), c < 256) := by
          intro c hc
          rw [HJ.out] at hc
          rcases List.mem_append.1 hc with h | h
          · rcases List.mem_append.1 h with h | h
            · exact hjb c h
            · simp at h; omega
          · exact hpb c h
        have H47 : Hid (∀ x ∈ st ++ [g], No (is 47) x) := by
          intro x hx
          rcases List.mem_append.1 hx with h | h
          · exact h47 x h
          · simp at h; subst h; exact hp47
        have HFin : Hid (∀ v w', Own w' w.heap.size 5 v (bv (join (st ++ [g]))) → Below w.heap.size w w' → w.heap.size ≤ w'.heap.size → DotsAt l w w.heap.size (.string (strN t)) v (.bool M) w') := by
          intro v w' h1 h2 h3
          refine ⟨st ++ [g], t, M, rfl, rfl, ?_, HJb.out, H47.out, h1, h2, h3, ?_⟩
          · rcases hmore2 with ⟨_, _, _, h⟩ | ⟨_, _, h⟩
            · exact h
            · rw [h]; intro c hc; cases hc
          · rcases hmore2 with ⟨rfl, h4, h5, _⟩ | ⟨rfl, h4, _⟩
            · left
              refine ⟨rfl, ?_, ?_⟩
              · rw [HG0.out, h4, dotsGo_more, if_neg HK2.out, if_neg HK1.out]
              · rw [HJ.out]; simp; omega
            · right
              refine ⟨rfl, ?_⟩
              rw [HG0.out, h4, dotsGo_one, if_neg HK2.out, if_neg HK1.out]
        clear hmore2 HG0 HJb H47
        go_wp2_with (first | (go_at_call 45; refine Calls.mono HCut2.out ?_; rintro e w2 ⟨rfl, hb2⟩; have HB2 : Hid _ := HB.out.trans (hb2.mono HB.out.size); have HO2 : Hid _ := Own.later HO.out hb2; have hs2 := HB2.out.size; clear hb2) | (at_builtin; refine wpList_app_u8 rfl _ (.tmp 29) rfl w.heap.size _ (bv (join st)) (.int .u8 47) rfl (Own.alloc HO2.out _) _ rfl (by simp) rfl (by rw [bv_len]; omega) (by simp; omega) ?_; intro v3 w3 hown3 hgrow3; have HO3 : Hid (Own w3 w.heap.size 5 v3 (bv (join st ++ [47]))) := (by show Own _ _ _ _ _; rw [bv_app]; exact hown3); have HB3 : Hid (Below w.heap.size w w3) := Own.below (Own.alloc HO2.out _) hgrow3 (HB2.out.alloc hs2 _) (by simp; omega); have hs3 := HB3.out.size; clear hown3 hgrow3) | (at_builtin; refine wpList_app_text rfl _ _ rfl w.heap.size _ (join st ++ [47]) g rfl HO3.out rfl hpb (by simp; omega) hs3 ?_; intro v4 w4 hown4 hgrow4; have HO4 : Hid (Own w4 w.heap.size 5 v4 (bv (join (st ++ [g])))) := (by show Own _ _ _ _ _; rw [HJ.out]; exact hown4); have HB4 : Hid (Below w.heap.size w w4) := Own.below HO3.out hgrow4 HB3.out hs3; have hs4 := HB4.out.size; clear hown4 hgrow4))
        exact ⟨HFin.out _ _ HO4.out HB4.out hs4, HME.out⟩
    · have HF : Hid (strN (dots l) = strN (join st)) := by show _ = _; rw [HD.out, hdots]
      have hstr := Own.str hown
      clear hown hbw hdots hjb h47
      go_wp2
      go_ret
      rw [HF.out]
      exact ⟨rfl, HB.out⟩
end Go.Proofs.YteockpllnhjooaaGreatDoor

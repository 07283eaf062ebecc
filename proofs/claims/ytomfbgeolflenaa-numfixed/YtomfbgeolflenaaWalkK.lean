/-
  The walk of the law NumTakes: which number stands at the beginning of any bytes, how many it has, or which error is told.
-/
import Derived.Test.YtomfbgeolflenaaWalkI
namespace Go.Proofs.Ytomfbgeolflenaa
open Go.RowKit NumMath
set_option linter.unusedVariables false

section
variable {P : Program} {w : World} {ops : Array Oper} {rest : List Oper} {o : Oper} {a : Act} {Q : Exit → Act → World → Prop}

/-- An operation whose guard says yes. -/
theorem wpList_want (hg : Region.wanted o (yielded ops a.tmps) = true) (h : ∀ K : Act → World → Prop, (∀ a w, wpList P ops Q rest a w → K a w) → o.wp P a w K Q) : wpList P ops Q (o :: rest) a w :=
  wpList_step fun K hK => by rw [if_pos hg]; exact h K hK

/-- An append onto a row of the call's own, of whatever source, under a guard that says yes. -/
theorem wpList_append_own_want (hg : Region.wanted o (yielded ops a.tmps) = true) (s x : Operand) (t : TypeId)
    (ho : o.op = .call { callee := .builtin .append, args := #[s, x], argTypes := #[t, t] })
    (base : Nat) (e : TypeId) (i : TypeInfo) (z : Value) (size bytes : Nat) (ht : P.underlying t = some (.slice e)) (hi : P.info? e = some i) (hz : i.zero = some z)
    (hsize : i.size = size) (hby : i.bytes = bytes) (hzs : z.cells.size = size) (hsz : 0 < size)
    (v : Value) (n : Nat) (xs : List Value) (hs : a.eval s = v) (hown : w.ownsRow base e size v n xs)
    (ao : Option Addr) (m c : Nat) (news : List Value) (hx : a.eval x = .slice ao m c) (hl : news.length = m * size) (hnone : ao = none → m = 0 ∧ c = 0)
    (hnews : ∀ ad, ao = some ad → ∀ j u, news[j]? = some u → w.cell? (ad.add j) = some u) (h1 : ∀ u ∈ news, u.oneCell' = true)
    (h63 : n + m ≤ maxLen) (hbytes : (n + m) * bytes ≤ 140737488355328) (hbase : base ≤ w.heap.size)
    (h : ∀ v' w', w'.ownsRow base e size v' (n + m) (xs ++ news) → w.grownBy w' v.ownBlock → wpList P ops Q rest (a.put o.dst v') w') : wpList P ops Q (o :: rest) a w := by
  refine wpList_want hg fun K hK => ?_
  cases ao with
  | some ad => exact wp_append_own w s x t ho base e i z size bytes ht hi hz hsize hby hzs hsz v n xs hs hown ad m c news hx hl (hnews ad rfl) h1 h63 hbytes hbase (fun v' w' h2 h3 _ => hK _ _ (h v' w' h2 h3))
  | none =>
    obtain ⟨rfl, rfl⟩ := hnone rfl
    have hn0 : news = [] := List.eq_nil_of_length_eq_zero (by simpa using hl)
    subst hn0
    have hrun := run_append_owned_none (P := P) (w := w) base t o.type e i size ht hi v n xs hown
    unfold Oper.wp
    simp [execOp, ho, resolve, invoke, builtin, hs, hx, hrun, Result.andThen]
    exact hK _ _ (h v w (by simpa using hown) (World.grownBy.refl _ _))
end

/-- What is owned and not empty is a slice at the head of a row. -/
theorem own_some {w : World} {base n : Nat} {v : Value} {xs : List Value} (h : w.ownsRow base 5 1 v n xs) (hn : 0 < n) : ∃ g cap, v = .slice (some ⟨g, 0, none⟩) n cap ∧ base ≤ g ∧ n ≤ cap ∧ cap ≤ maxLen := by
  rcases h.2 with ⟨rfl, h0⟩ | ⟨g, cap, cur, rfl, hb, _, hnc, hcm, _⟩
  · omega
  · exact ⟨g, cap, rfl, hb, hnc, hcm⟩

theorem Row.take {k : IntKind} {w : World} {a : Option Addr} {zs : List Int} (h : Row k w a zs) (j : Nat) : Row k w a (zs.take j) := by
  rcases h with h | ⟨b, off, ha, hcell⟩
  · left; rw [h]; simp
  · refine .inr ⟨b, off, ha, fun i hi => ?_⟩
    simp at hi
    have h1 := hcell i (by omega)
    rw [h1]
    have h2 : i < j := by omega
    simp [h2]

theorem bytes_take {zs : List Int} (h : ∀ c ∈ zs, 0 ≤ c ∧ c ≤ 255) (j : Nat) : ∀ c ∈ zs.take j, 0 ≤ c ∧ c ≤ 255 := fun c hc => h c (List.mem_of_mem_take hc)

theorem bytes_set {zs : List Int} (h : ∀ c ∈ zs, 0 ≤ c ∧ c ≤ 255) (j : Nat) {x : Int} (hx : 0 ≤ x ∧ x ≤ 255) : ∀ c ∈ zs.set j x, 0 ≤ c ∧ c ≤ 255 := by
  intro c hc
  rcases List.mem_or_eq_of_mem_set hc with h1 | h1
  · exact h c h1
  · rw [h1]; exact hx

theorem bytes_append {xs ys : List Int} (h : ∀ c ∈ xs, 0 ≤ c ∧ c ≤ 255) (h' : ∀ c ∈ ys, 0 ≤ c ∧ c ≤ 255) : ∀ c ∈ xs ++ ys, 0 ≤ c ∧ c ≤ 255 := by
  intro c hc
  rcases List.mem_append.1 hc with h1 | h1
  · exact h c h1
  · exact h' c h1

theorem own_kept {w w2 : World} {b e s g n c : Nat} {row : Option Nat} {xs : List Value} (h : w.ownsRow b e s (.slice (some ⟨g, 0, none⟩) n c) n xs) (hg : w.grownBy w2 row) (hr : ∀ k, row = some k → k ≠ g) : w2.ownsRow b e s (.slice (some ⟨g, 0, none⟩) n c) n xs := by
  refine h.kept hg ?_
  cases row with
  | none => right; simp [Value.ownBlock]
  | some k => right; have := hr k rfl; simp [Value.ownBlock]; omega

theorem own_base {w : World} {b e s g n c : Nat} {xs : List Value} (h : w.ownsRow b e s (.slice (some ⟨g, 0, none⟩) n c) n xs) : b ≤ w.heap.size := by
  have := h.lt g rfl; omega

theorem mod_nat (x : Int) (k : Nat) (hk : 0 < k) : ∃ t : Nat, t < k ∧ x % (k : Int) = (t : Int) := by
  have h1 := Int.emod_lt_of_pos x (show (0 : Int) < (k : Int) by omega)
  have h2 := Int.emod_nonneg x (show (k : Int) ≠ 0 by omega)
  exact ⟨(x % (k : Int)).toNat, by omega, by omega⟩

def nine : List Int := [255, 255, 255, 255, 255, 255, 255, 255, 255]

set_option maxHeartbeats 1600000 in
theorem numTakes_walk (a : Option Addr) (zs : List Int) (cap : Nat) (v cut ix by_ : Int) (W : World) (hr : Row .u8 W a zs) (hc : zs.length ≤ cap) (hm : cap ≤ maxLen) (hn : a = none → cap = 0)
    (hw : ∀ n ∈ zs, (Lit.int .u8 n).wf = true) (hs : cap * 1 ≤ 140737488351232) (wv : (Lit.int .u64 v).wf = true) (wcut : (Lit.int .u8 cut).wf = true) (wix : (Lit.int .u8 ix).wf = true) (wby : (Lit.int .u8 by_).wf = true) :
    Calls Try.prog 4 #[.slice a zs.length cap, .int .u64 v, .int .u8 cut, .int .u8 ix, .int .u8 by_] W fun e w' => e = .returned (.bool true) ∧ Below W.heap.size W w' := by
  obtain ⟨i0, hi, hz0, hz1, hz2⟩ := info_parts Try.info5
  obtain ⟨hv0, hv1⟩ := bounds_u64 wv
  have hcut := bounds_u8 wcut
  have hix := bounds_u8 wix
  have hby := bounds_u8 wby
  have hzb := u8s hw
  have hnl : a = none → zs.length = 0 ∧ cap = 0 := fun h => by have := hn h; omega
  have hlen : zs.length ≤ 140737488351232 := by omega
  have hDl := D_len v
  have hDb := D_byte hv0 hv1
  clear wv hw hs wcut wix wby
  go_enter Try.func4, Try.ntmps4
  go_wp2_with fail
  refine (known_any _).mono ?_
  rintro e w1 ⟨rfl, hb1⟩
  have hr1 := hr.later hb1
  go_wp2_with fail
  refine (takes_any a zs cap _ hr1 hzb hc hm).mono ?_
  rintro e w' ⟨rfl, rfl⟩
  go_wp2_with fail
  refine (refPut_any none (some ⟨w'.heap.size, 0, none⟩) [] [v] 0 1 _ (.inl rfl) (by decide) (by decide) (fun _ => rfl) (by exact lit_row _ .u64 [v] 26 _ rfl) (by simp; omega) (by simp) (by decide) (by simp)).mono ?_
  rw [put_one]
  rintro e w2 ⟨vp, rfl, hown2, hb2⟩
  obtain ⟨g, cp, hvp, hg, hncp, hcpm⟩ := own_some hown2 (by omega)
  subst hvp
  have hb2' : Below W.heap.size W w2 := (hb1.alloc hb1.size _).trans (hb2.mono (by have := hb1.size; simp; omega))
  have hgW : W.heap.size ≤ g := by have := hb1.size; simp at hg; omega
  have hg2 : g < w2.heap.size := (hown2.lt g rfl).2
  clear hb2 hr1 hb1 hg
  generalize hk : (D v).length = k at *
  have HK : Hid ((D v).length = k) := hk
  clear hk
  have hrp : Row .u8 w2 (some ⟨g, 0, none⟩) (D v) := by
    have := own_row hown2 k (Nat.le_refl _)
    rwa [List.take_of_length_le (by rw [HK.out]; omega)] at this
  obtain ⟨j, hj, hjc⟩ : ∃ j : Nat, j ≤ k ∧ cut % ((k : Int) + 1) = (j : Int) := by
    obtain ⟨j, h1, h2⟩ := mod_nat cut (k + 1) (by omega)
    exact ⟨j, by omega, by rw [← h2]; congr 1⟩
  obtain ⟨t, ht, htc⟩ := mod_nat ix k (by omega)
  have hcpm' : cp ≤ 9223372036854775807 := by unfold maxLen at hcpm; omega
  go_wp2_with fail
  have hlj : ((D v).take j).length = j := by rw [List.length_take, HK.out]; omega
  have T1 := takes_any (some ⟨g, 0, none⟩) ((D v).take j) cp w2 (hrp.take j) (bytes_take hDb j) (by rw [hlj]; omega) hcpm
  rw [hlj] at T1
  refine T1.mono ?_
  rintro e w' ⟨rfl, rfl⟩
  clear T1 hlj hrp
  have hcell0 : ∃ u, w'.cell? ⟨g, t, none⟩ = some u := by
    rw [hown2.cellAt t (by omega)]
    have : t < (D v).length := by rw [HK.out]; exact ht
    exact ⟨_, List.getElem?_eq_getElem (by simpa using this)⟩
  have hfz := hown2.frozenAt t
  have hst := (hown2.stored t (.int .u8 by_)).1
  rw [← List.map_set] at hst
  have hbS : Below W.heap.size W (w'.setCell ⟨g, t, none⟩ (.int .u8 by_)) := hb2'.setCell hgW _
  clear hown2
  obtain ⟨u0, hcell⟩ := hcell0
  go_wp2_with (first
    | (at_builtin; refine wpList_append_own_any rfl _ (.tmp 41) 22 rfl w'.heap.size 5 i0 (.int .u8 0) 1 1 Try.underlying22 hi hz0 hz1 hz2 rfl (by decide) (.slice none 0 0) 0 [] rfl (World.ownsRow_nil _ _ _ _) (some ⟨w'.heap.size, 0, none⟩) 9 9 (nine.map (Value.int .u8)) rfl rfl (by intro h; cases h) (lit_row _ .u8 nine 5 _ (by simp)).news (ints_oneCell _ _) (by decide) (by decide) (by simp) ?_; intro v3 w3 hown3 hgrow3)
    | (at_builtin; refine wpList_append_own_any rfl (.tmp 42) (.tmp 45) 22 rfl w'.heap.size 5 i0 (.int .u8 0) 1 1 Try.underlying22 hi hz0 hz1 hz2 rfl (by decide) v3 9 _ rfl (hown3.alloc _) (some ⟨w3.heap.size, 0, none⟩) 2 2 ([by_, ix].map (Value.int .u8)) rfl rfl (by intro h; cases h) (lit_row _ .u8 [by_, ix] 5 _ rfl).news (ints_oneCell _ _) (by decide) (by decide) (by have := hgrow3.size; simp at this; simp; omega) ?_; intro vq w4 hownq hgrow4))
  have hp4 := own_kept ((own_kept (hst.alloc _) hgrow3 (by intro k hk; cases hk)).alloc _) hgrow4 (fun k hk => by have := own_ge hown3 k hk; omega)
  have hb4 : Below W.heap.size W w4 := by
    have h1 := hbS.size
    have h2 := hgrow3.size
    simp at h1 h2
    refine (((hbS.alloc (by simpa using h1) _).grown hgrow3 (by simp; omega) (by intro k hk; cases hk)).alloc (by omega) _).grown hgrow4 (by simp; omega) (fun k hk => ?_)
    have := own_ge hown3 k hk
    omega
  rw [List.nil_append, ← List.map_append] at hownq
  obtain ⟨gq, cq, hvq, hgq, hnq, hcq⟩ := own_some hownq (by omega)
  subst hvq
  have hQ : ∀ c ∈ nine ++ [by_, ix], 0 ≤ c ∧ c ≤ 255 := bytes_append (by decide) (by simp; omega)
  have hPb := bytes_set hDb t hby
  have hPl : ((D v).set t by_).length = k := by rw [List.length_set]; exact HK.out
  have hrp4 : Row .u8 w4 (some ⟨g, 0, none⟩) ((D v).set t by_) := by
    have := own_row hp4 k (Nat.le_refl _)
    rwa [List.take_of_length_le (by omega)] at this
  have T2 := takes_any (some ⟨g, 0, none⟩) ((D v).set t by_) cp w4 hrp4 hPb (by omega) hcpm
  rw [hPl] at T2
  have hr4 := hr.later hb4
  clear hgrow3 hgrow4 hown3 hst hbS hrp4 hfz hcell hb2' hcut hDb hjc htc
  refine T2.mono ?_
  rintro e w5 ⟨rfl, rfl⟩
  clear T2
  go_wp2_with (at_builtin; refine wpList_append_own_want rfl (.tmp 50) (.tmp 51) 22 rfl _ 5 i0 (.int .u8 0) 1 1 Try.underlying22 hi hz0 hz1 hz2 rfl (by decide) (.slice (some ⟨g, 0, none⟩) k cp) k _ rfl hp4 a zs.length cap (zs.map (Value.int .u8)) rfl (by rw [List.length_map, Nat.mul_one]) hnl hr4.news (ints_oneCell _ _) (by unfold maxLen; omega) (by omega) (own_base hp4) ?_; intro v6 w6 hown6 hgrow6)
  have hq6 := own_kept hownq hgrow6 (fun k hk => by have : g = k := Option.some.inj hk; omega)
  have hb6 : Below W.heap.size W w6 := hb4.grown hgrow6 hb4.size (fun k hk => by cases hk; exact hgW)
  rw [← List.map_append] at hown6
  obtain ⟨a6, c6, hv6, hr6, hc6, hm6, _⟩ := own_shape hown6
  subst hv6
  have hrq : Row .u8 w6 (some ⟨gq, 0, none⟩) (nine ++ [by_, ix]) := by
    have := own_row hq6 11 (Nat.le_refl _)
    rwa [List.take_of_length_le (show (nine ++ [by_, ix]).length ≤ 11 from Nat.le_refl 11)] at this
  have T3 := takes_any (some ⟨gq, 0, none⟩) (nine ++ [by_, ix]) cq w6 hrq hQ (by exact hnq) hcq
  have T4 := takes_any (some ⟨gq, 0, none⟩) ((nine ++ [by_, ix]).take 10) cq w6 (hrq.take 10) (bytes_take hQ 10) (by show 10 ≤ cq; omega) hcq
  have T5 := takes_any (some ⟨gq, 0, none⟩) ((nine ++ [by_, ix]).take 9) cq w6 (hrq.take 9) (bytes_take hQ 9) (by show 9 ≤ cq; omega) hcq
  rw [show (nine ++ [by_, ix]).length = 11 from rfl] at T3
  rw [show ((nine ++ [by_, ix]).take 10).length = 10 from rfl] at T4
  rw [show ((nine ++ [by_, ix]).take 9).length = 9 from rfl] at T5
  have U3 : Hid _ := T3
  have U4 : Hid _ := T4
  have U5 : Hid _ := T5
  have hcq' : 11 ≤ cq := hnq
  clear T3 T4 T5 hrq hq6 hownq hp4 hgrow6 hown6 hb4 hr4
  refine (takes_any a6 ((D v).set t by_ ++ zs) c6 w6 hr6 (bytes_append hPb hzb) hc6 hm6).mono ?_
  rintro e w7 ⟨rfl, rfl⟩
  clear hr6 hc6 hm6 hPb hQ hPl
  go_wp2_with fail
  refine Calls.mono U3.out ?_
  rintro e w8 ⟨rfl, rfl⟩
  go_wp2_with fail
  refine Calls.mono U4.out ?_
  rintro e w9 ⟨rfl, rfl⟩
  go_wp2_with fail
  refine Calls.mono U5.out ?_
  rintro e w10 ⟨rfl, rfl⟩
  clear U3 U4 U5
  go_wp2_with (at_builtin; refine wpList_append_own_want rfl (.tmp 72) (.tmp 75) 22 rfl w10.heap.size 5 i0 (.int .u8 0) 1 1 Try.underlying22 hi hz0 hz1 hz2 rfl (by decide) (.slice (some ⟨w10.heap.size, 0, none⟩) 1 1) 1 _ rfl ((World.ownsRow_lit w10 #[.int .u8 (bits .or .u8 ix 128)] 1 (Nat.le_refl _) (by decide) rfl).alloc _) (some ⟨w10.heap.size + 1, 0, none⟩) 2 2 ([bits .and .u8 128 by_, 0].map (Value.int .u8)) rfl rfl (by intro h; cases h) (lit_row _ .u8 [bits .and .u8 128 by_, 0] 5 _ (by simp)).news (ints_oneCell _ _) (by decide) (by decide) (by simp; omega) ?_; intro v11 w11 hown11 hgrow11)
  have hb11 : Below W.heap.size W w11 := by
    have h1 := hb6.size
    exact ((hb6.alloc h1 _).alloc (by simp; omega) _).grown hgrow11 (by simp; omega) (fun k hk => by cases hk; exact h1)
  have hown11' : w11.ownsRow w10.heap.size 5 1 v11 (1 + 2) ([bits .or .u8 ix 128, bits .and .u8 128 by_, 0].map (Value.int .u8)) := hown11
  obtain ⟨a11, c11, hv11, hr11, hc11, hm11, _⟩ := own_shape hown11'
  subst hv11
  refine (takes_any a11 [bits .or .u8 ix 128, bits .and .u8 128 by_, 0] c11 w11 hr11 ?_ hc11 hm11).mono ?_
  · intro c hc
    simp at hc
    rcases hc with rfl | rfl | rfl
    · exact ⟨bits_lo_u8 _ _ _, bits_hi_u8 _ _ _⟩
    · exact ⟨bits_lo_u8 _ _ _, bits_hi_u8 _ _ _⟩
    · omega
  · rintro e w12 ⟨rfl, rfl⟩
    clear hown11 hown11' hgrow11 hr11 hc11 hm11
    go_wp2
    go_ret
    exact ⟨rfl, hb11⟩
end Go.Proofs.Ytomfbgeolflenaa

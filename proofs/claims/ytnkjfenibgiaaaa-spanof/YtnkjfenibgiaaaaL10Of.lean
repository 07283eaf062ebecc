/-
  Walk of newsreellaw10.SpanOf.
-/
import Derived.Test.YtnkjfenibgiaaaaL10Known
import Derived.Test.YtnkjfenibgiaaaaL10Kit
import Derived.OpenShut
import Derived.Deep.Cut
namespace Go.Proofs.Ytnkjfenibgiaaaa
open Go.RowKit NumMath
open SpanMath (Rg)
set_option maxRecDepth 100000
set_option linter.unusedVariables false
set_option linter.unusedSimpArgs false

/-- The turned list. -/
def turnI (acc : List Int) (kk m : Nat) : List Int := (List.range m).map (fun t => acc[acc.length - 1 - (t + kk) % acc.length]?.getD 0)
theorem turnI_succ (acc : List Int) (kk m : Nat) : turnI acc kk (m + 1) = turnI acc kk m ++ [acc[acc.length - 1 - (m + kk) % acc.length]?.getD 0] := by
  unfold turnI; rw [List.range_succ, List.map_append]; rfl
theorem turnI_len (acc : List Int) (kk m : Nat) : (turnI acc kk m).length = m := by simp [turnI]
theorem turnI_mem (acc : List Int) (kk : Nat) (x : Int) : x ∈ turnI acc kk acc.length ↔ x ∈ acc := by
  unfold turnI
  rw [List.mem_map]
  constructor
  · rintro ⟨t, ht, rfl⟩
    have ht' : t < acc.length := by simpa using ht
    have hr : (t + kk) % acc.length < acc.length := Nat.mod_lt _ (by omega)
    have hj : acc.length - 1 - (t + kk) % acc.length < acc.length := by omega
    rw [List.getElem?_eq_getElem hj]
    exact List.getElem_mem hj
  · intro hx
    obtain ⟨j, hj, rfl⟩ := List.getElem_of_mem hx
    have hk : kk % acc.length < acc.length := Nat.mod_lt _ (by omega)
    refine ⟨(acc.length - 1 - j + (acc.length - kk % acc.length)) % acc.length, by simpa using Nat.mod_lt _ (by omega), ?_⟩
    have e : ((acc.length - 1 - j + (acc.length - kk % acc.length)) % acc.length + kk) % acc.length = acc.length - 1 - j := by
      rw [Nat.mod_add_mod]
      have h1 := Nat.div_add_mod kk acc.length
      have h2 : acc.length - 1 - j + (acc.length - kk % acc.length) + kk = acc.length - 1 - j + acc.length * (kk / acc.length + 1) := by
        rw [Nat.mul_add, Nat.mul_one]
        generalize acc.length * (kk / acc.length) = t at *
        generalize kk % acc.length = b at *
        omega
      rw [h2, Nat.add_mul_mod_self_left]
      exact Nat.mod_eq_of_lt (by omega)
    rw [e, show acc.length - 1 - (acc.length - 1 - j) = j by omega]
    simp [hj]

def ext (c : Int) : List Int := [c % 40, 1099511627775 - c / 40]
theorem ext_len (l : List Int) : (l.flatMap ext).length = 2 * l.length := by
  induction l with
  | nil => rfl
  | cons x t ih => rw [List.flatMap_cons, List.length_append, ih]; simp [ext]; omega
theorem ext_take (l : List Int) (k : Nat) (hk : k < l.length) : (l.take (k + 1)).flatMap ext = (l.take k).flatMap ext ++ ext (l[k]?.getD 0) := by
  rw [List.take_succ_eq_append_getElem hk, List.flatMap_append]; simp [hk]
theorem ofTo_few (l : List Int) : ∀ k, k ≤ l.length → (SpanMath.ofTo (l.take k)).length ≤ k
  | 0, _ => by simp [SpanMath.ofTo]
  | k + 1, h => by
    rw [List.take_succ_eq_append_getElem h, SpanMath.ofTo_snoc]
    have := ofTo_few l k (by omega)
    split
    · have := SpanMath.add_len (SpanMath.ofTo (l.take k)) ⟨l[k], l[k]⟩; omega
    · omega
theorem wp_app_i64 {o : Oper} {a : Act} {w : World} {K : Act → World → Prop} {Q : Exit → Act → World → Prop} (s x : Operand) (ho : o.op = .call { callee := .builtin .append, args := #[s, x], argTypes := #[35, 35] })
    (base : Nat) (v : Value) (zs : List Int) (hs : a.eval s = v) (hown : NOwn w base v zs) (ad : Addr) (c : Nat) (ys : List Int) (n : Nat) (hn : n = ys.length) (hx : a.eval x = .slice (some ad) n c) (hr : Row .i64 w (some ad) ys)
    (hl : zs.length + ys.length ≤ 8796093022208) (hbase : base ≤ w.heap.size)
    (h : ∀ v' w', NOwn w' base v' (zs ++ ys) → w.grownBy w' v.ownBlock → K (a.put o.dst v') w') : o.wp Try.prog a w K Q := by
  subst hn
  obtain ⟨i0, hi, hz0, hz1, hz2⟩ := info_parts info2
  refine wp_append_own w s x 35 ho base 2 i0 (.int .i64 0) 1 8 Try.underlying35 hi hz0 hz1 hz2 rfl (by decide) v zs.length (zs.map (Value.int .i64)) hs hown.own ad ys.length c (ys.map (Value.int .i64)) hx (by simp) (hr.news ad rfl) (ints_oneCell _ _) (by unfold maxLen; omega) (by omega) hbase ?_
  intro v' w' h1 h2 _
  refine h v' w' ⟨?_⟩ h2
  rw [List.length_append, List.map_append]; exact h1

set_option maxHeartbeats 64000000 in
theorem spanOf_walk (a0 : Option Addr) (zs : List Int) (cap0 : Nat) (a1 : Option Addr) (xs : List Int) (cap1 : Nat) (n2 : Int) (W : World)
    (hr0 : Row .i64 W a0 zs) (hc0 : zs.length ≤ cap0) (hm0 : cap0 ≤ maxLen) (hn0 : a0 = none → cap0 = 0) (hw0 : ∀ n ∈ zs, (Lit.int .i64 n).wf = true) (hs0 : cap0 * 8 ≤ 140737488351232)
    (hr1 : Row .u8 W a1 xs) (hc1 : xs.length ≤ cap1) (hm1 : cap1 ≤ maxLen) (hn1 : a1 = none → cap1 = 0) (hw1 : ∀ n ∈ xs, (Lit.int .u8 n).wf = true) (hs1 : cap1 * 1 ≤ 140737488351232)
    (w2 : (Lit.int .u8 n2).wf = true) :
    Calls Try.prog 4 #[.slice a0 zs.length cap0, .slice a1 xs.length cap1, .int .u8 n2] W fun r W' => r = .returned (.bool true) ∧ Below W.heap.size W W' := by
  obtain ⟨hk0, hk1⟩ := bounds_u8 w2
  obtain ⟨kk, rfl⟩ := Int.eq_ofNat_of_zero_le hk0
  have hkk : kk ≤ 255 := by omega
  have HU : Hid (∀ c ∈ xs, 0 ≤ c ∧ c ≤ 255) := u8s hw1
  have HK : Hid _ := known_any W
  have HR0 : Hid (∀ w, Below W.heap.size W w → Row .i64 w a0 zs) := fun w hB => hr0.later hB
  have HCx : Hid (∀ k, k < xs.length → ∃ b off c, a1 = some ⟨b, off, none⟩ ∧ c = xs[k]?.getD 0 ∧ (0 ≤ c ∧ c ≤ 255) ∧ ∀ w', Below W.heap.size W w' → w'.cell? ⟨b, off + k, none⟩ = some (.int .u8 c)) := fun k hk => by
    rcases hr1 with h | ⟨b, off, ha, hcell⟩
    · rw [h] at hk; simp at hk
    · refine ⟨b, off, _, ha, rfl, ?_, fun w' hB => ?_⟩
      · rw [List.getElem?_eq_getElem hk]; exact HU.out _ (List.getElem_mem hk)
      · have h0 := hcell k hk
        rw [hB.cell (World.block_lt_of_cell? W _ h0)]; exact h0
  have HEx : Hid (∀ k, k < xs.length → zs ++ (xs.take (k + 1)).flatMap ext = (zs ++ (xs.take k).flatMap ext) ++ ext (xs[k]?.getD 0)) := fun k hk => by rw [ext_take xs k hk, List.append_assoc]
  have HXl : Hid (∀ k, (zs ++ (xs.take k).flatMap ext).length ≤ zs.length + 2 * k) := fun k => by
    show _ ≤ _
    rw [List.length_append, ext_len]; have := List.length_take_le k xs; omega
  have HXe : Hid (xs.take xs.length = xs) := List.take_of_length_le (Nat.le_refl _)
  have HW0 : Hid (∀ n ∈ zs, -9223372036854775808 ≤ n ∧ n ≤ 9223372036854775807) := fun n hn => bounds_i64 (hw0 n hn)
  have HNo0 : Hid (a0 = none → cap0 = 0) := hn0
  obtain ⟨n0, hx0⟩ : ∃ n, n = zs.length := ⟨_, rfl⟩
  obtain ⟨nx, hx1⟩ : ∃ n, n = xs.length := ⟨_, rfl⟩
  have HN0 : Hid (n0 = zs.length) := hx0
  have HNx : Hid (nx = xs.length) := hx1
  rw [← hx0] at hc0 HXl ⊢
  rw [← hx1] at hc1 HCx HEx HXe ⊢
  unfold maxLen at hm0 hm1
  clear hr0 hr1 hw0 hw1 hs0 hs1 hn0 hn1 w2 hk0 hk1 hx0 hx1
  by_cases hl0 : n0 ≤ 100
  · by_cases hl1 : nx ≤ 100
    · have b0 : decide ((100 : Int) < (n0 : Int)) = false := decide_eq_false (by omega)
      have b1 : decide ((100 : Int) < (nx : Int)) = false := decide_eq_false (by omega)
      go_enter Try.func4, Try.ntmps4
      go_wp2_with fail
      refine Calls.mono HK.out ?_
      rintro e w1 ⟨rfl, hb1⟩
      have HB1 : Hid _ := hb1
      clear hb1 HK
      go_wp2_with (at_builtin; refine wpList_app_i64 rfl _ _ rfl W.heap.size (.slice none 0 0) [] rfl (NOwn.nil _ _) a0 cap0 zs n0 HN0.out rfl (HR0.out _ HB1.out) HNo0.out hc0 (by rw [← HN0.out]; simp; omega) HB1.out.size ?_; intro v3 w3 hown3 hgrow3)
      have HO3 : Hid (NOwn w3 W.heap.size v3 (zs ++ (xs.take 0).flatMap ext)) := by have := hown3; simpa [Hid] using this
      have HB3 : Hid (Below W.heap.size W w3) := HB1.out.grown hgrow3 HB1.out.size (fun q hq => by cases hq)
      clear hown3 hgrow3 HB1 HNo0 HR0
      go_wp2_with fail
      go_loopw [7, 8] (fun v i wr => ∃ k : Nat, k ≤ nx ∧ i = .int .i64 k ∧ NOwn wr W.heap.size v (zs ++ (xs.take k).flatMap ext) ∧ Below W.heap.size W wr) (fun _ i _ => nx - (intOf i).toNat)
      case atStart => exact ⟨0, by omega, rfl, HO3.out, HB3.out⟩
      case round =>
        obtain ⟨k, hk, rfl, hO, hB⟩ := hrel
        have HO : Hid (NOwn wr W.heap.size _ (zs ++ (xs.take k).flatMap ext)) := hO
        have HB : Hid (Below W.heap.size W wr) := hB
        clear hO hB HO3 HB3
        by_cases hkn : k < nx
        · have hki : (k : Int) < (nx : Int) := by omega
          have hkc : (k : Int) < (cap1 : Int) := by omega
          obtain ⟨b, off, c, rfl, hcx, hcb, hcell⟩ := HCx.out k hkn
          have HC : Hid (∀ w', Below W.heap.size W w' → w'.cell? ⟨b, off + k, none⟩ = some (.int .u8 c)) := hcell
          have HEk : Hid _ := HEx.out k hkn
          rw [← hcx] at HEk
          have hlen := HXl.out k
          obtain ⟨y1, hy1⟩ : ∃ y, y = c % 40 := ⟨_, rfl⟩
          obtain ⟨q, hq⟩ : ∃ y, y = c / 40 := ⟨_, rfl⟩
          obtain ⟨y2, hy2⟩ : ∃ y, y = 1099511627775 - q := ⟨_, rfl⟩
          have HEx2 : Hid (ext c = [y1, y2]) := by show _ = _; unfold ext; rw [hy1, hy2, hq]
          have e1 : c.tmod 40 = y1 := by rw [Int.tmod_eq_emod_of_nonneg (by omega)]; exact hy1.symm
          have e2 : IntKind.u8.wrap y1 = y1 := by rw [IntKind.wrap_u8]; omega
          have e3 : IntKind.i64.wrap y1 = y1 := by rw [IntKind.wrap_i64]; omega
          have e4 : c.tdiv 40 = q := by rw [Int.tdiv_eq_ediv_of_nonneg (by omega)]; exact hq.symm
          have e5 : IntKind.u8.wrap q = q := by rw [IntKind.wrap_u8]; omega
          have e6 : IntKind.i64.wrap q = q := by rw [IntKind.wrap_i64]; omega
          have e7 : IntKind.i64.wrap (1099511627775 - q) = y2 := by rw [IntKind.wrap_i64]; omega
          clear hcx hcell hy1 hq hy2
          go_upto_region 9 with (fail)
          have HOd : Hid (NOwn wr.drew W.heap.size _ (zs ++ (xs.take k).flatMap ext)) := HO.out.drew
          have HBd : Hid (Below W.heap.size W wr.drew) := HB.out.drew
          have p0 := HC.out _ HBd.out
          clear HO HB
          generalize zs ++ (xs.take k).flatMap ext = al0 at *
          refine wp_region_held_drew (S := fun w' => w'.cell? ⟨b, off + k, none⟩ = some (.int .u8 c)) (by kernel_rfl) p0 (fun hS => ?_)
          clear p0
          generalize wr.drew = v0 at *
          refine wpAnyH_take (i := 0) (v := ?_) rfl (by kernel_rfl) (by kernel_rfl) (by kernel_rfl) (fun _ _ _ h => h) (Or.inl ⟨by rfl, ?_⟩) hS ?_
          rotate_left 1
          · intro w hSw; (try dsimp only at hSw); go_simp <;> with_reducible rfl
          simp only [List.getElem_toArray, List.getElem_cons_zero, List.getElem_cons_succ, Act.put, List.setIfInBounds_toArray, List.set_cons_zero, List.set_cons_succ]
          refine wpAnyH_take (i := 1) (v := ?_) rfl (by kernel_rfl) (by kernel_rfl) (by kernel_rfl) (fun _ _ _ h => h) (Or.inl ⟨by rfl, ?_⟩) hS ?_
          rotate_left 1
          · intro w hSw; (try dsimp only at hSw); go_simp <;> with_reducible rfl
          simp only [List.getElem_toArray, List.getElem_cons_zero, List.getElem_cons_succ, Act.put, List.setIfInBounds_toArray, List.set_cons_zero, List.set_cons_succ]
          refine wpAnyH_take (i := 2) (v := ?_) rfl (by kernel_rfl) (by kernel_rfl) (by kernel_rfl) (fun _ _ _ h => h) (Or.inl ⟨by rfl, ?_⟩) hS ?_
          rotate_left 1
          · intro w hSw; (try dsimp only at hSw); go_simp <;> with_reducible rfl
          simp only [List.getElem_toArray, List.getElem_cons_zero, List.getElem_cons_succ, Act.put, List.setIfInBounds_toArray, List.set_cons_zero, List.set_cons_succ]
          refine wpAnyH_take (i := 3) (v := ?_) rfl (by kernel_rfl) (by kernel_rfl) (by kernel_rfl) (fun _ _ _ h => h) (Or.inl ⟨by rfl, ?_⟩) hS ?_
          rotate_left 1
          · intro w hSw; (try dsimp only at hSw); go_simp <;> with_reducible rfl
          simp only [List.getElem_toArray, List.getElem_cons_zero, List.getElem_cons_succ, Act.put, List.setIfInBounds_toArray, List.set_cons_zero, List.set_cons_succ]
          refine wpAnyH_take (i := 4) (v := ?_) rfl (by kernel_rfl) (by kernel_rfl) (by kernel_rfl) (fun _ _ _ h => h) (Or.inl ⟨by rfl, ?_⟩) hS ?_
          rotate_left 1
          · intro w hSw; (try dsimp only at hSw); go_simp <;> with_reducible rfl
          simp only [List.getElem_toArray, List.getElem_cons_zero, List.getElem_cons_succ, Act.put, List.setIfInBounds_toArray, List.set_cons_zero, List.set_cons_succ]
          refine wpAnyH_take (i := 5) (v := ?_) rfl (by kernel_rfl) (by kernel_rfl) (by kernel_rfl) (fun _ _ _ h => h) (Or.inl ⟨by rfl, ?_⟩) hS ?_
          rotate_left 1
          · intro w hSw; (try dsimp only at hSw); go_simp <;> with_reducible rfl
          simp only [List.getElem_toArray, List.getElem_cons_zero, List.getElem_cons_succ, Act.put, List.setIfInBounds_toArray, List.set_cons_zero, List.set_cons_succ]
          refine wpAnyH_take (i := 6) (v := ?_) rfl (by kernel_rfl) (by kernel_rfl) (by kernel_rfl) (fun _ _ _ h => h) (Or.inl ⟨by rfl, ?_⟩) hS ?_
          rotate_left 1
          · intro w hSw; (try dsimp only at hSw); go_simp <;> with_reducible rfl
          simp only [List.getElem_toArray, List.getElem_cons_zero, List.getElem_cons_succ, Act.put, List.setIfInBounds_toArray, List.set_cons_zero, List.set_cons_succ]
          refine wpAnyH_take (i := 7) (v := ?_) rfl (by kernel_rfl) (by kernel_rfl) (by kernel_rfl) (fun _ _ _ h => h) (Or.inl ⟨by rfl, ?_⟩) hS ?_
          rotate_left 1
          · intro w hSw; (try dsimp only at hSw); go_simp <;> with_reducible rfl
          simp only [List.getElem_toArray, List.getElem_cons_zero, List.getElem_cons_succ, Act.put, List.setIfInBounds_toArray, List.set_cons_zero, List.set_cons_succ]
          refine wpAnyH_take (i := 8) (v := ?_) rfl (by kernel_rfl) (by kernel_rfl) (by kernel_rfl) (fun _ _ _ h => h) (Or.inl ⟨by rfl, ?_⟩) hS ?_
          rotate_left 1
          · intro w hSw; (try dsimp only at hSw); go_simp <;> with_reducible rfl
          simp only [List.getElem_toArray, List.getElem_cons_zero, List.getElem_cons_succ, Act.put, List.setIfInBounds_toArray, List.set_cons_zero, List.set_cons_succ]
          refine wpAnyH_take (i := 9) (v := ?_) rfl (by kernel_rfl) (by kernel_rfl) (by kernel_rfl) (fun _ _ _ h => h) (Or.inl ⟨by rfl, ?_⟩) hS ?_
          rotate_left 1
          · intro w hSw; (try dsimp only at hSw); go_simp <;> with_reducible rfl
          simp only [List.getElem_toArray, List.getElem_cons_zero, List.getElem_cons_succ, Act.put, List.setIfInBounds_toArray, List.set_cons_zero, List.set_cons_succ]
          refine wpAnyH_take (i := 10) (v := ?_) rfl (by kernel_rfl) (by kernel_rfl) (by kernel_rfl) (fun _ _ _ h => h) (Or.inl ⟨by rfl, ?_⟩) hS ?_
          rotate_left 1
          · intro w hSw; (try dsimp only at hSw); go_simp <;> with_reducible rfl
          simp only [List.getElem_toArray, List.getElem_cons_zero, List.getElem_cons_succ, Act.put, List.setIfInBounds_toArray, List.set_cons_zero, List.set_cons_succ]
          refine wpAnyH_take (i := 11) (v := ?_) rfl (by kernel_rfl) (by kernel_rfl) (by kernel_rfl) (fun _ _ _ h => h) (Or.inl ⟨by rfl, ?_⟩) hS ?_
          rotate_left 1
          · intro w hSw; (try dsimp only at hSw); go_simp <;> with_reducible rfl
          simp only [List.getElem_toArray, List.getElem_cons_zero, List.getElem_cons_succ, Act.put, List.setIfInBounds_toArray, List.set_cons_zero, List.set_cons_succ]
          refine wpAnyH_take (i := 12) (v := ?_) rfl (by kernel_rfl) (by kernel_rfl) (by kernel_rfl) (fun _ _ _ h => h) (Or.inl ⟨by rfl, ?_⟩) hS ?_
          rotate_left 1
          · intro w hSw; (try dsimp only at hSw); go_simp <;> with_reducible rfl
          simp only [List.getElem_toArray, List.getElem_cons_zero, List.getElem_cons_succ, Act.put, List.setIfInBounds_toArray, List.set_cons_zero, List.set_cons_succ]
          refine wpAnyH_take (i := 13) (v := ?_) rfl (by kernel_rfl) (by kernel_rfl) (by kernel_rfl) (fun _ _ _ h => h) (Or.inl ⟨by rfl, ?_⟩) hS ?_
          rotate_left 1
          · intro w hSw; (try dsimp only at hSw); go_simp <;> with_reducible rfl
          simp only [List.getElem_toArray, List.getElem_cons_zero, List.getElem_cons_succ, Act.put, List.setIfInBounds_toArray, List.set_cons_zero, List.set_cons_succ]
          clear e1 e2 e3 e4 e5 e6 e7
          refine wpAnyH_ready (rs := [14]) (by kernel_rfl) (by simp) ?_
          refine AllReadyH.cons rfl (fun K hK => ?_) AllReadyH.nil
          go_simp
          have hbl : Below v0.heap.size v0 (v0.alloc (.cells #[.int .i64 y1, .int .i64 y2] 2)) := (Below.refl _ _).alloc (Nat.le_refl _) _
          have HLi : Hid (Row .i64 (v0.alloc (.cells #[.int .i64 y1, .int .i64 y2] 2)) (some ⟨v0.heap.size, 0, none⟩) [y1, y2]) := lit_row v0 .i64 [y1, y2] 2 _ rfl
          have HO8 : Hid _ := HOd.out.later hbl
          have HB8 : Hid _ := HBd.out.trans (hbl.mono HBd.out.size)
          refine hK.out _ _ (HC.out _ HB8.out) (fun hS => ?_)
          clear hK K hbl HOd HBd
          generalize v0.alloc (.cells #[.int .i64 y1, .int .i64 y2] 2) = v1 at *
          generalize v0.heap.size = gl at *
          refine wpAnyH_ready (rs := [15]) (by kernel_rfl) (by simp) ?_
          refine AllReadyH.cons rfl (fun K hK => ?_) AllReadyH.nil
          refine wp_app_i64 _ _ rfl W.heap.size _ al0 rfl HO8.out ⟨gl, 0, none⟩ 2 [y1, y2] 2 rfl rfl HLi.out (by simp; omega) HB8.out.size ?_
          intro v4 w4 hown4 hgrow4
          have HO4 : Hid (NOwn w4 W.heap.size v4 (zs ++ (xs.take (k + 1)).flatMap ext)) := by rw [HEk.out, HEx2.out]; exact hown4
          have HB4 : Hid (Below W.heap.size W w4) := HB8.out.grown hgrow4 HB8.out.size (fun q hq => (HO8.out.lt q hq).1)
          refine hK.out _ _ (HC.out _ HB4.out) (fun hS => ?_)
          clear hK K hown4 hgrow4 HO8 HB8 HLi
          refine wpAnyH_take (i := 16) (v := ?_) rfl (by kernel_rfl) (by kernel_rfl) (by kernel_rfl) (fun _ _ _ h => h) (Or.inl ⟨by rfl, ?_⟩) hS ?_
          rotate_left 1
          · intro w hSw; (try dsimp only at hSw); go_simp <;> with_reducible rfl
          simp only [List.getElem_toArray, List.getElem_cons_zero, List.getElem_cons_succ, Act.put, List.setIfInBounds_toArray, List.set_cons_zero, List.set_cons_succ]
          refine wpAnyH_done (by kernel_rfl) ?_ _
          go_wp2
          go_roundw
          case rel => exact ⟨k + 1, by omega, by go_num, HO4.out, HB4.out⟩
          case measure => simp [intOf]; omega
        · have hkk' : k = nx := by omega
          have hdk : decide ((k : Int) < (nx : Int)) = false := by simp; omega
          subst hkk'
          have hO9 := HO.out
          rw [HXe.out] at hO9
          have HO9 : Hid _ := hO9
          clear hO9
          have hN2 : (zs ++ xs.flatMap ext).length ≤ 300 := by rw [List.length_append, ext_len, ← HN0.out, ← HNx.out]; omega
          have HWa : Hid (∀ n ∈ zs ++ xs.flatMap ext, -9223372036854775808 ≤ n ∧ n ≤ 9223372036854775807) := fun n hn => by
            rcases List.mem_append.1 hn with h | h
            · exact HW0.out n h
            · obtain ⟨c, hc, h2⟩ := List.mem_flatMap.1 h
              have := HU.out c hc
              unfold ext at h2
              simp at h2
              rcases h2 with rfl | rfl <;> omega
          clear HO HXe HXl HEx HCx HW0 HU HN0 HNx
          generalize zs ++ xs.flatMap ext = al at *
          obtain ⟨ao, ca, rfl, hrow, hca, hma, hna⟩ := HO9.out.row
          have HTm : Hid (∀ x, x ∈ turnI al kk al.length ↔ x ∈ al) := fun x => turnI_mem al kk x
          have HSm : Hid (Sm (SpanMath.ofTo al)) := ⟨SpanMath.ofTo_R al, by have := ofTo_few al al.length (Nat.le_refl _); rw [List.take_of_length_le (Nat.le_refl _)] at this; omega⟩
          have HOh : Hid (∀ n ∈ al, SpanMath.has (SpanMath.ofTo al) n = (decide (1 ≤ n) && decide (n ≤ 1099511627775))) := fun n hn => by
            rw [SpanMath.has_of (SpanMath.ofTo_R al)]; exact SpanMath.of_has hn
          have HRt : Hid (SpanMath.right (SpanMath.ofTo al) = true) := (SpanMath.right_iff _).2 (SpanMath.ofTo_R al)
          obtain ⟨N, hN⟩ : ∃ N, N = al.length := ⟨_, rfl⟩
          have HN : Hid (N = al.length) := hN
          have HTs : Hid (∀ m, turnI al kk (m + 1) = turnI al kk m ++ [al[N - 1 - (m + kk) % N]?.getD 0]) := fun m => by rw [turnI_succ, ← HN.out]
          have HTo : Hid (SpanMath.ofTo (turnI al kk N) = SpanMath.ofTo al) := by show _ = _; rw [HN.out]; exact SpanMath.ofTo_eq HTm.out
          rw [← hN] at hca hN2 ⊢
          have HRa : Hid (∀ w, Below wr.heap.size wr w → Row .i64 w ao al) := fun w hB => hrow.later hB
          have HCa : Hid (∀ k, k < N → ∀ w, Below wr.heap.size wr w → ∃ b off, ao = some ⟨b, off, none⟩ ∧ w.cell? ⟨b, off + k, none⟩ = some (.int .i64 (al[k]?.getD 0))) := fun k hk w hB => by
            rcases hrow.later hB with h | ⟨b, off, ha, hcell⟩
            · rw [hN, h] at hk; simp at hk
            · exact ⟨b, off, ha, hcell k (by omega)⟩
          have HWk : Hid (∀ k, k < N → al[k]?.getD 0 ∈ al ∧ -9223372036854775808 ≤ al[k]?.getD 0 ∧ al[k]?.getD 0 ≤ 9223372036854775807) := fun k hk => by
            have hk' : k < al.length := by omega
            rw [List.getElem?_eq_getElem hk']
            exact ⟨List.getElem_mem hk', HWa.out _ (List.getElem_mem hk')⟩
          unfold maxLen at hma
          clear hN hrow hna HO9 HTm hdk hkn hk
          generalize wr = w2 at *
          have HBw : Hid (Below W.heap.size W w2) := HB.out
          clear HB
          go_wp2_with fail
          go_loopw [9, 10] (fun t i wr => ∃ m : Nat, m ≤ N ∧ i = .int .i64 m ∧ NOwn wr w2.heap.size t (turnI al kk m) ∧ Below w2.heap.size w2 wr) (fun _ i _ => N - (intOf i).toNat)
          case atStart => exact ⟨0, by omega, rfl, NOwn.nil _ _, Below.refl _ _⟩
          case round =>
            obtain ⟨m, hm, rfl, hO, hB⟩ := hrel
            have HO : Hid (NOwn wr w2.heap.size _ (turnI al kk m)) := hO
            have HB : Hid (Below w2.heap.size w2 wr) := hB
            clear hO hB
            by_cases hmN : m < N
            · have hmi : (m : Int) < (N : Int) := by omega
              obtain ⟨r, hr⟩ : ∃ r, r = (m + kk) % N := ⟨_, rfl⟩
              have hrN : r < N := by rw [hr]; exact Nat.mod_lt _ (by omega)
              obtain ⟨j, hj⟩ : ∃ j, j = N - 1 - r := ⟨_, rfl⟩
              have hjN : j < N := by omega
              have HTt := HTs.out m
              rw [← hr, ← hj] at HTt
              obtain ⟨b, off, rfl, p0⟩ := HCa.out j hjN wr HB.out
              have hjc : (j : Int) < (ca : Int) := by omega
              have hlt1 : m + 1 ≤ 8796093022208 := by omega
              have f3 : ((m : Int) + (kk : Int)).tmod (N : Int) = (r : Int) := by
                rw [Int.tmod_eq_emod_of_nonneg (by omega), hr]; simp
              have f1 : IntKind.i64.wrap ((N : Int) - 1) = (N : Int) - 1 := by rw [IntKind.wrap_i64]; omega
              have f2 : IntKind.i64.wrap ((m : Int) + (kk : Int)) = (m : Int) + (kk : Int) := by rw [IntKind.wrap_i64]; omega
              have f4 : (N : Int) - 1 - (r : Int) = (j : Int) := by omega
              have f5 : IntKind.i64.wrap (j : Int) = (j : Int) := by rw [IntKind.wrap_i64]; omega
              have f6 : IntKind.i64.wrap (r : Int) = (r : Int) := by rw [IntKind.wrap_i64]; omega
              have f7 : IntKind.i64.wrap (kk : Int) = (kk : Int) := by rw [IntKind.wrap_i64]; omega
              have f8 : ((N : Int) == 0) = false := by simp; omega
              have hji : (j : Int) < (N : Int) := by omega
              generalize al[j]?.getD 0 = q at *
              have HTt : Hid _ := HTt
              have hlen : (turnI al kk m).length = m := turnI_len al kk m
              have HLt : Hid ((turnI al kk m).length = m) := hlen
              clear hr hj hlen
              have HLi : Hid (Row .i64 (wr.alloc (.cells #[.int .i64 q] 2)) (some ⟨wr.heap.size, 0, none⟩) [q]) := lit_row wr .i64 [q] 2 _ rfl
              have HO8 : Hid (NOwn (wr.alloc (.cells #[.int .i64 q] 2)) w2.heap.size _ (turnI al kk m)) := HO.out.alloc _
              have HB8 : Hid (Below w2.heap.size w2 (wr.alloc (.cells #[.int .i64 q] 2))) := HB.out.alloc HB.out.size _
              generalize turnI al kk m = tu at *
              go_wp2_with (at_builtin; refine wpList_app_i64 rfl _ _ rfl w2.heap.size _ tu rfl HO8.out (some ⟨wr.heap.size, 0, none⟩) 1 [q] 1 rfl rfl HLi.out (by simp) (Nat.le_refl _) (by rw [HLt.out]; exact hlt1) HB8.out.size ?_; intro v4 w4 hown4 hgrow4)
              have HO9 : Hid (NOwn w4 w2.heap.size v4 (turnI al kk (m + 1))) := by rw [HTt.out]; exact hown4
              have HB9 : Hid (Below w2.heap.size w2 w4) := HB8.out.grown hgrow4 HB8.out.size (fun q hq => (HO8.out.lt q hq).1)
              clear hown4 hgrow4 HO8 HB8 HLi p0 f1 f2 f3 f4 f5 f6 f7 f8
              go_wp2
              go_roundw
              case rel => exact ⟨m + 1, by omega, by go_num, HO9.out, HB9.out⟩
              case measure => simp [intOf]; omega
            · have hmk : m = N := by omega
              have hdm : decide ((m : Int) < (N : Int)) = false := by simp; omega
              subst hmk
              have HTl : Hid ((turnI al kk m).length = m) := turnI_len al kk m
              obtain ⟨at2, ct, rfl, hrt, hct, hmt, hnt⟩ := HO.out.row
              rw [HTl.out] at hct ⊢
              have HRu : Hid (∀ w, Below wr.heap.size wr w → Row .i64 w at2 (turnI al kk m)) := fun w hB => hrt.later hB
              have HBa : Hid (∀ w, Below wr.heap.size wr w → Below w2.heap.size w2 w) := fun w hB => HB.out.trans (hB.mono HB.out.size)
              have HOf : Hid (∀ w, Below wr.heap.size wr w → _) := fun w hB => spanOf_any ao al ca w (HRa.out w (HBa.out w hB)) (by rw [← HN.out]; exact hca) (by unfold maxLen; exact hma) (by rw [← HN.out]; omega)
              have HRf : Hid (∀ w, Below wr.heap.size wr w → _) := fun w hB => refSpanOf_any ao al ca w (HRa.out w (HBa.out w hB)) (by rw [← HN.out]; exact hca) (by unfold maxLen; exact hma) (by rw [← HN.out]; omega)
              have HTu : Hid (∀ w, Below wr.heap.size wr w → _) := fun w hB => spanOf_any at2 (turnI al kk m) ct w (HRu.out w hB) (by rw [HTl.out]; exact hct) hmt (by rw [HTl.out]; omega)
              rw [HTl.out, HTo.out] at HTu
              rw [← HN.out] at HOf HRf
              have HL0 : Hid (Below wr.heap.size wr wr) := Below.refl _ _
              clear HO hrt hnt hmN hm hdm HRa HRu HTs HTl HTo
              generalize turnI al kk m = tu at *
              generalize SpanMath.ofTo al = so at *
              generalize wr = w5 at *
              go_wp2_with fail
              refine Calls.mono (HOf.out w5 HL0.out) ?_
              rintro e w51 ⟨v51, rfl, hv51, hb51⟩
              have Hs51 : Hid (Rngs w51 v51 so) := hv51
              have HL51 : Hid (Below w5.heap.size w5 w51) := HL0.out.trans (hb51.mono HL0.out.size)
              clear hv51 HL0 hb51
              have hrs := spanRight_any v51 so w51 Hs51.out HSm.out.fit
              rw [HRt.out] at hrs
              have HXr : Hid _ := hrs
              clear hrs
              go_wp2_with fail
              refine Calls.mono (HXr.out) ?_
              rintro e w52 ⟨rfl, hb52⟩
              have Hs52 : Hid (Rngs w52 v51 so) := Rngs.later Hs51.out hb52
              have HL52 : Hid (Below w5.heap.size w5 w52) := HL51.out.trans (hb52.mono HL51.out.size)
              clear Hs51 HL51 hb52
              go_wp2_with fail
              refine Calls.mono (HRf.out w52 HL52.out) ?_
              rintro e w53 ⟨v53, rfl, ho53, hb53⟩
              have Hf53 : Hid (Rngs w53 v53 so) := ho53.ranges
              have Hs53 : Hid (Rngs w53 v51 so) := Rngs.later Hs52.out hb53
              have HL53 : Hid (Below w5.heap.size w5 w53) := HL52.out.trans (hb53.mono HL52.out.size)
              clear ho53 hb53 Hs52 HL52
              go_wp2_with fail
              refine Calls.mono (same_of w53 Hs53.out Hf53.out rfl HSm.out) ?_
              rintro e w54 ⟨rfl, hb54⟩
              have Hs54 : Hid (Rngs w54 v51 so) := Rngs.later Hs53.out hb54
              have Hf54 : Hid (Rngs w54 v53 so) := Rngs.later Hf53.out hb54
              have HL54 : Hid (Below w5.heap.size w5 w54) := HL53.out.trans (hb54.mono HL53.out.size)
              clear Hs53 Hf53 HL53 hb54
              clear Hf54
              go_wp2_with fail
              refine Calls.mono (HTu.out w54 HL54.out) ?_
              rintro e w55 ⟨v55, rfl, hv55, hb55⟩
              have Hs55 : Hid (Rngs w55 v51 so) := Rngs.later Hs54.out hb55
              have Ht55 : Hid (Rngs w55 v55 so) := hv55
              have HL55 : Hid (Below w5.heap.size w5 w55) := HL54.out.trans (hb55.mono HL54.out.size)
              clear Hs54 hv55 HL54 hb55
              go_wp2_with fail
              refine Calls.mono (same_of w55 Ht55.out Hs55.out rfl HSm.out) ?_
              rintro e w56 ⟨rfl, hb56⟩
              have Hs56 : Hid (Rngs w56 v51 so) := Rngs.later Hs55.out hb56
              have Ht56 : Hid (Rngs w56 v55 so) := Rngs.later Ht55.out hb56
              have HL56 : Hid (Below w5.heap.size w5 w56) := HL55.out.trans (hb56.mono HL55.out.size)
              clear Hs55 Ht55 HL55 hb56
              clear Ht56
              have HSx : Hid (∀ w, Below w56.heap.size w56 w → Rngs w v51 so) := fun w hB => Hs56.out.later hB
              have HCb : Hid (∀ k, k < m → ∀ w, Below w56.heap.size w56 w → ∃ b off, ao = some ⟨b, off, none⟩ ∧ w.cell? ⟨b, off + k, none⟩ = some (.int .i64 (al[k]?.getD 0))) := fun k hk w hB => HCa.out k hk w (HBa.out w (HL56.out.trans (hB.mono HL56.out.size)))
              have HBe : Hid (Below W.heap.size W w56) := HBw.out.trans ((HBa.out _ HL56.out).mono HBw.out.size)
              clear HCa HBa HBw HB Hs56 HL56
              go_wp2_with fail
              go_loopw [12] (fun i wr => ∃ k : Nat, k ≤ m ∧ i = .int .i64 k ∧ Below w56.heap.size w56 wr) (fun i _ => m - (intOf i).toNat)
              case atStart => exact ⟨0, by omega, rfl, Below.refl _ _⟩
              case round =>
                obtain ⟨k, hk, rfl, hB⟩ := hrel
                have HB : Hid (Below w56.heap.size w56 wr) := hB
                clear hB
                by_cases hkm : k < m
                · have hki : (k : Int) < (m : Int) := by omega
                  have hkc : (k : Int) < (ca : Int) := by omega
                  obtain ⟨b, off, rfl, p0⟩ := HCb.out k hkm wr HB.out
                  obtain ⟨hin, hw1, hw2⟩ := HWk.out k hkm
                  have hoh := HOh.out _ hin
                  generalize al[k]?.getD 0 = c at *
                  have HC1 : Hid (∀ u : Grown1 wr, Calls Try.prog 12 #[v51, .int .i64 c] u.w fun e w' => e = .returned (.bool (decide (1 ≤ c) && decide (c ≤ 1099511627775))) ∧ Below u.w.heap.size u.w w') := fun u => by
                    have := spanHas_any v51 so c u.w (HSx.out u.w (HB.out.trans (u.below.mono HB.out.size))) HSm.out.fit hw1 hw2
                    rw [hoh] at this
                    exact this
                  have hne : Nonempty (Grown1 wr) := ⟨⟨wr, Below.refl _ _⟩⟩
                  have p0' := fun u : Grown1 wr => grown1_cell p0 u
                  clear p0 hoh hin hw1 hw2
                  go_upto_region 21 with (fail)
                  by_cases h1 : 1 ≤ c
                  · by_cases h2 : c ≤ 1099511627775
                    · have hb : (decide (1 ≤ c) && decide (c ≤ 1099511627775)) = true := by simp [h1, h2]
                      rw [hb] at HC1
                      clear hb
                      have b1 : decide (1 ≤ c) = true := decide_eq_true h1
                      have b2 : decide (c ≤ 1099511627775) = true := decide_eq_true h2
                      (try simp only [Act.put])
                      refine wp_region_grow (by kernel_rfl) (by kernel_rfl) ?_
                      repeat (go_big_quiet_step (first | with_reducible exact grown1_call _ (HC1.out _)))
                      refine wpQuiet_nil ?_
                      intro _ hw'
                      obtain ⟨n1, hw''⟩ := hw'
                      subst hw''
                      have HB7 : Hid _ := HB.out.trans (n1.below.mono HB.out.size)
                      clear p0' HC1 HB
                      generalize n1.w = u7 at *
                      clear hne n1
                      go_wp2
                      go_roundw
                      case rel => exact ⟨k + 1, by omega, by go_num, HB7.out⟩
                      case measure => simp [intOf]; omega
                    · have hb : (decide (1 ≤ c) && decide (c ≤ 1099511627775)) = false := by simp [h2]
                      rw [hb] at HC1
                      clear hb
                      have b1 : decide (1 ≤ c) = true := decide_eq_true h1
                      have b2 : decide (c ≤ 1099511627775) = false := decide_eq_false h2
                      (try simp only [Act.put])
                      refine wp_region_grow (by kernel_rfl) (by kernel_rfl) ?_
                      repeat (go_big_quiet_step (first | with_reducible exact grown1_call _ (HC1.out _)))
                      refine wpQuiet_nil ?_
                      intro _ hw'
                      obtain ⟨n1, hw''⟩ := hw'
                      subst hw''
                      have HB7 : Hid _ := HB.out.trans (n1.below.mono HB.out.size)
                      clear p0' HC1 HB
                      generalize n1.w = u7 at *
                      clear hne n1
                      go_wp2
                      go_roundw
                      case rel => exact ⟨k + 1, by omega, by go_num, HB7.out⟩
                      case measure => simp [intOf]; omega
                  · have hb : (decide (1 ≤ c) && decide (c ≤ 1099511627775)) = false := by simp [h1]
                    rw [hb] at HC1
                    clear hb
                    have b1 : decide (1 ≤ c) = false := decide_eq_false h1
                    (try simp only [Act.put])
                    refine wp_region_grow (by kernel_rfl) (by kernel_rfl) ?_
                    repeat (go_big_quiet_step (first | with_reducible exact grown1_call _ (HC1.out _)))
                    refine wpQuiet_nil ?_
                    intro _ hw'
                    obtain ⟨n1, hw''⟩ := hw'
                    subst hw''
                    have HB7 : Hid _ := HB.out.trans (n1.below.mono HB.out.size)
                    clear p0' HC1 HB
                    generalize n1.w = u7 at *
                    clear hne n1
                    go_wp2
                    go_roundw
                    case rel => exact ⟨k + 1, by omega, by go_num, HB7.out⟩
                    case measure => simp [intOf]; omega
                · have hkk' : k = m := by omega
                  have hdk : decide ((k : Int) < (m : Int)) = false := by simp; omega
                  have HB9 : Hid (Below W.heap.size W wr) := HBe.out.trans (HB.out.mono HBe.out.size)
                  clear hkk'
                  go_wp2
                  go_ret
                  exact ⟨rfl, HB9.out⟩
    · have b0 : decide ((100 : Int) < (n0 : Int)) = false := decide_eq_false (by omega)
      have b1 : decide ((100 : Int) < (nx : Int)) = true := decide_eq_true (by omega)
      go_enter Try.func4, Try.ntmps4
      go_wp2_with fail
      refine Calls.mono HK.out ?_
      rintro e w1 ⟨rfl, hb1⟩
      have HB1 : Hid _ := hb1
      clear hb1
      go_wp2
      go_ret
      exact ⟨rfl, HB1.out⟩
  · have b0 : decide ((100 : Int) < (n0 : Int)) = true := decide_eq_true (by omega)
    go_enter Try.func4, Try.ntmps4
    go_wp2_with fail
    refine Calls.mono HK.out ?_
    rintro e w1 ⟨rfl, hb1⟩
    have HB1 : Hid _ := hb1
    clear hb1
    go_wp2
    go_ret
    exact ⟨rfl, HB1.out⟩
end Go.Proofs.Ytnkjfenibgiaaaa

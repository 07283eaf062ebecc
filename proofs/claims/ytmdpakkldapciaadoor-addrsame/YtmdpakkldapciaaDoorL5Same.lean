/-
  Walk of newsreellaw5.AddrSame.
-/
import Derived.Test.YtmdpakkldapciaaDoorFnGreat
import Derived.Test.YtmdpakkldapciaaDoorFnRefD
import Derived.Test.YtmdpakkldapciaaDoorL5Known
namespace Go.Proofs.YtmdpakkldapciaaDoor
open Go.RowKit NumMath
open AddrMath (parse right hostOf colon http https)
set_option maxRecDepth 100000
set_option linter.unusedVariables false
set_option linter.unusedSimpArgs false

theorem idles_lt : ∀ q ∈ idles, (∀ c ∈ q, c < 256) ∧ q.length ≤ 10 := by decide
theorem addrs_form : ∀ a ∈ addrs, parse a = (a, 0) := by decide +kernel
theorem same_math {v a : List Nat} (h : parse v = (a, 0)) : ∃ n c, ((n = 7 ∧ c = 58) ∨ (n = 8 ∧ c = 115)) ∧ a[4]? = some c ∧ hostOf a ≠ [] ∧ (hostOf a).length + 8 ≤ a.length ∧ a.length ≤ 200 ∧ n + (hostOf a).length ≤ a.length ∧ (∀ m, m ≤ n + (hostOf a).length → parse (greatL m a) = (a, 0)) ∧ (∀ q ∈ idles, parse (a.take (n + (hostOf a).length) ++ q ++ a.drop (n + (hostOf a).length)) = (a, 0)) := by
  obtain ⟨sch, hh, po, st, qu, F⟩ := AddrMath.form_of_parse h
  have hO := F.hostOf
  obtain ⟨r, hr, _⟩ := AddrMath.join_form F.ne
  have hne : hh ≠ [] := by
    intro e
    have := F.host
    rw [e] at this
    exact absurd this (by decide)
  have hi : a = (sch ++ colon ++ (hh ++ po)) ++ (AddrMath.join st ++ qu) := by
    rw [F.is]; simp
  have hl := F.len
  have hsl : 4 ≤ sch.length := by rcases F.sch0 with e | e <;> rw [e] <;> decide
  have hlen : a.length = sch.length + 3 + (hh ++ po).length + (1 + r.length + qu.length) := by
    have := congrArg List.length hi; rw [hr] at this; simp only [List.length_append, List.length_cons, colon, List.length_nil] at this ⊢; omega
  have hn : (sch ++ colon).length + (hh ++ po).length = (sch ++ colon ++ (hh ++ po)).length := by simp only [List.length_append]
  refine ⟨(sch ++ colon).length, (if sch = https then 115 else 58), ?_, ?_, by rw [hO]; simp [hne], by rw [hO]; omega, hl, ?_, ?_, ?_⟩
  · rcases F.sch0 with e | e <;> rw [e] <;> decide
  · rw [hi]
    rcases F.sch0 with e | e <;> rw [e] <;> rfl
  · rw [hO]; simp only [List.length_append, colon, List.length_cons, List.length_nil] at hlen ⊢; omega
  · intro m hm
    refine parse_great F m ?_
    rw [hO] at hm
    simp only [List.length_append] at hm ⊢
    omega
  · intro q hq
    have key := AddrMath.parse_again F (u := sch) (h0 := hh) (e := q) F.sch0.lower (AddrMath.host_lower F.host) (idles_idle q hq)
    rw [hO, hn]
    have e1 : a.take (sch ++ colon ++ (hh ++ po)).length = sch ++ colon ++ (hh ++ po) := by conv => lhs; rw [hi]
                                                                                            rw [List.take_left]
    have e2 : a.drop (sch ++ colon ++ (hh ++ po)).length = AddrMath.join st ++ qu := by conv => lhs; rw [hi]
                                                                                        rw [List.drop_left]
    rw [e1, e2]
    simpa [List.append_assoc] using key

set_option maxRecDepth 100000 in
set_option maxHeartbeats 16000000 in
theorem addrSame_walk (s0 : ByteArray) (n1 n2 : Int) (W : World) (ht : MaxLen W) (hs0 : s0.size ≤ 140737488355328) (w1 : (Lit.int .u8 n1).wf = true) (w2 : (Lit.int .u8 n2).wf = true) :
    Calls Tryd.prog 7 #[.string s0, .int .u8 n1, .int .u8 n2] W fun e W' => e = .returned (.bool true) ∧ Below W.heap.size W W' := by
  obtain ⟨s, hsb, rfl⟩ := any_str s0
  have hb1 := bounds_u8 w1
  have hb2 := bounds_u8 w2
  obtain ⟨k, rfl⟩ : ∃ n : Nat, n1 = (n : Int) := ⟨n1.toNat, by omega⟩
  obtain ⟨j, rfl⟩ : ∃ n : Nat, n2 = (n : Int) := ⟨n2.toNat, by omega⟩
  have hk : k < 256 := by omega
  have hj : j < 256 := by omega
  have HT : Hid _ := ht
  have HK : Hid _ := known_any W ht
  have hsz := strN_size s
  clear w1 w2 ht hb1 hb2 hs0
  by_cases hbig : s.length ≤ 300
  · have HAd : Hid (∀ w, _) := fun w => seatAddr_any k w hk
    have HAf := addrs_form _ (seatA5_mem k)
    obtain ⟨hab, hal, _⟩ := addrs_lt _ (seatA5_mem k)
    generalize seatA5 k = A at *
    obtain ⟨As, hAs⟩ : ∃ x, x = A ++ s := ⟨_, rfl⟩
    have hcA : ∀ w, (Op.stringOp BinOp.add (strN A) (strN s)).run Tryd.prog w = .ok (.string (strN As)) w := by rw [hAs]; exact sum_strN A s (by omega)
    have hAsb : ∀ c ∈ As, c < 256 := by rw [hAs]; exact app_lt hab hsb
    have hAsl : As.length ≤ 400 := by rw [hAs]; simp; omega
    clear hAs
    obtain ⟨q7, hq7, hq7e⟩ : ∃ q : Nat, (j : Int) % 7 = (q : Int) ∧ q = j % 7 := ⟨j % 7, by omega, rfl⟩
    have hq7T : (j : Int).tmod 7 = (q7 : Int) := by rw [Int.tmod_eq_emod_of_nonneg (by omega)]; exact hq7
    obtain ⟨r5, hr5, hr5e⟩ : ∃ q : Nat, (j : Int) % 5 = (q : Int) ∧ q = j % 5 := ⟨j % 5, by omega, rfl⟩
    have hr5T : (j : Int).tmod 5 = (r5 : Int) := by rw [Int.tmod_eq_emod_of_nonneg (by omega)]; exact hr5
    have hq7l : q7 < 7 := by omega
    have hr5l : r5 < 5 := by omega
    obtain ⟨Q, hQ⟩ : ∃ Q, idles[q7]? = some Q := ⟨idles[q7]'(by exact hq7l), List.getElem?_eq_getElem _⟩
    have HQ : Hid (Q ∈ idles) := List.mem_of_getElem? hQ
    have HIdl : Hid (∀ w : World, (w.alloc (Obj.cells #[.string ⟨#[47, 46]⟩, .string ⟨#[47, 120, 47, 46, 46]⟩, .string ⟨#[47, 120, 47, 121, 47, 46, 46, 47, 46, 46]⟩, .string ⟨#[47, 46, 46]⟩, .string ⟨#[47, 46, 47, 46]⟩, .string ⟨#[47, 37, 50, 101]⟩, .string ⟨#[47, 113, 47, 37, 50, 69, 46]⟩] 9)).cell? ⟨w.heap.size, q7, none⟩ = some (.string (strN Q))) := by
      intro w
      have := txt_cell w idles q7 hq7l
      rw [hQ] at this
      exact this
    clear hQ hq7e hr5e
    have hfb := AddrMath.parse_lt As
    rcases hpv : parse As with ⟨f, e⟩
    rw [hpv] at hfb
    simp only at hfb
    have HP0 : Hid (∀ w, MaxLen w → _) := fun w ht => parse_at As f e w ht hAsb (by omega) hpv
    by_cases he : e = 0
    · subst he
      have HP1 : Hid (∀ w, MaxLen w → Calls Tryd.prog 15 #[.string (strN As)] w fun e w' => e = .returned (.tuple #[.string (strN f), .int .i64 0]) ∧ Below w.heap.size w w') := fun w ht => HP0.out w ht
      have HPV := hpv
      have HAB : ∀ c ∈ f, c < 256 := hfb
      clear hpv HP0 hfb HAf
      obtain ⟨n, c4, hn, hc4, hhf, hlen8, hal2, hnl, hgr, hid⟩ := same_math HPV
      have hr5n : r5 ≤ n + (hostOf f).length := by omega
      have hgp1 := hgr (n + (hostOf f).length) (Nat.le_refl _)
      have hgp2 := hgr (n + (hostOf f).length - r5) (by omega)
      have hip := hid Q HQ.out
      have hab2 : ∀ c ∈ f, c < 256 := HAB
      have HHo : Hid (∀ w, MaxLen w → _) := fun w ht => host_any f w ht hab2 (by omega)
      have hhb := hostOf_lt f hab2
      have hQb := idles_lt Q HQ.out
      have HG1 : Hid (∀ w, _) := fun w => great_any f (n + (hostOf f).length) w hab2 (by omega) (by omega)
      have HG2 : Hid (∀ w, _) := fun w => great_any f (n + (hostOf f).length - r5) w hab2 (by omega) (by omega)
      have HS1 : Hid (∀ w, _) := fun w => slice_to (w := w) f _ (n + (hostOf f).length) (by omega) rfl
      have HS2 : Hid (∀ w, _) := fun w => slice_from (w := w) f _ (n + (hostOf f).length) (by omega) rfl
      have hPb : ∀ c ∈ f.take (n + (hostOf f).length), c < 256 := fun c hc => hab2 c (List.mem_of_mem_take hc)
      have hRb : ∀ c ∈ f.drop (n + (hostOf f).length), c < 256 := fun c hc => hab2 c (List.mem_of_mem_drop hc)
      have hPl : (f.take (n + (hostOf f).length)).length ≤ 200 := by rw [List.length_take]; omega
      have hRl : (f.drop (n + (hostOf f).length)).length ≤ 200 := by rw [List.length_drop]; omega
      have hg1b := greatL_lt (n := n + (hostOf f).length) hab2
      have hg2b := greatL_lt (n := n + (hostOf f).length - r5) hab2
      have hg1l := greatL_len (n + (hostOf f).length) f
      have hg2l := greatL_len (n + (hostOf f).length - r5) f
      generalize greatL (n + (hostOf f).length) f = g1 at *
      generalize greatL (n + (hostOf f).length - r5) f = g2 at *
      generalize f.take (n + (hostOf f).length) = P at *
      generalize f.drop (n + (hostOf f).length) = R at *
      obtain ⟨PQ, hPQ⟩ : ∃ x, x = P ++ Q := ⟨_, rfl⟩
      obtain ⟨V, hV⟩ : ∃ x, x = PQ ++ R := ⟨_, rfl⟩
      have hc1 : ∀ w, (Op.stringOp BinOp.add (strN P) (strN Q)).run Tryd.prog w = .ok (.string (strN PQ)) w := by rw [hPQ]; exact sum_strN P Q (by omega)
      have hc2 : ∀ w, (Op.stringOp BinOp.add (strN PQ) (strN R)).run Tryd.prog w = .ok (.string (strN V)) w := by rw [hV]; exact sum_strN PQ R (by rw [hPQ]; simp; omega)
      have HTb : Hid (∀ v ∈ [g1, g2, V], (∀ c ∈ v, c < 256) ∧ v.length ≤ 600 ∧ parse v = (f, 0)) := by
        intro v hv
        simp at hv
        rcases hv with rfl | rfl | rfl
        · exact ⟨hg1b, by omega, hgp1⟩
        · exact ⟨hg2b, by omega, hgp2⟩
        · refine ⟨?_, ?_, ?_⟩
          · rw [hV, hPQ]; exact app_lt (app_lt hPb hQb.1) hRb
          · rw [hV, hPQ]; simp; omega
          · rw [hV, hPQ]; exact hip
      have haz := strN_size f
      have hix4 : ∀ w, (Instr.index 9 (.string (strN f)) (.int .i64 4)).run Tryd.prog w = .ok (.int .u8 (c4 : Int)) w := by
        intro w
        have := index_strN f hab2 4 (by omega) .i64 w
        rw [hc4] at this
        exact this
      have hhe : ((strN (hostOf f)).toList == []) = false := by rw [eq_lit [] [] rfl hhb (by simp)]; simpa using hhf
      have hhz := strN_size (hostOf f)
      obtain ⟨hl, hhl⟩ : ∃ n, n = (hostOf f).length := ⟨_, rfl⟩
      obtain ⟨al, hal3⟩ : ∃ n, n = f.length := ⟨_, rfl⟩
      rw [← hhl] at hhz hnl hlen8 HG1 HG2 HS1 HS2
      rw [← hal3] at haz hnl hlen8 hal2
      generalize hostOf f = h at *
      clear hhl hal3 hPQ hV hc4 hhf hgr hid hgp1 hgp2 hip hg1b hg2b hg1l hg2l hPb hRb hhb hQb HPV HAB hab2 HQ hr5n
      go_enter Tryd.func7, Tryd.ntmps7
      go_wp2_with fail
      refine Calls.mono HK.out ?_
      rintro e w1 ⟨rfl, hb1⟩
      have HB1 : Hid _ := hb1
      clear hb1
      go_wp2_with fail
      refine Calls.mono (HAd.out _) ?_
      rintro e w2 ⟨rfl, hb2⟩
      have HB2 : Hid _ := HB1.out.trans (hb2.mono HB1.out.size)
      clear hb2
      go_wp2_with fail
      refine Calls.mono (HP1.out _ (MaxLen.later HT.out HB2.out)) ?_
      rintro e w3 ⟨rfl, hb3⟩
      have HB3 : Hid _ := HB2.out.trans (hb3.mono HB2.out.size)
      clear hb3
      go_wp2_with fail
      refine Calls.mono (HHo.out _ (MaxLen.later HT.out HB3.out)) ?_
      rintro e w5 ⟨rfl, hb5⟩
      have HB5 : Hid _ := HB3.out.trans (hb5.mono HB3.out.size)
      clear hb5
      have hce := HIdl.out w5
      have HB6 : Hid (Below W.heap.size W (w5.alloc (Obj.cells #[.string ⟨#[47, 46]⟩, .string ⟨#[47, 120, 47, 46, 46]⟩, .string ⟨#[47, 120, 47, 121, 47, 46, 46, 47, 46, 46]⟩, .string ⟨#[47, 46, 46]⟩, .string ⟨#[47, 46, 47, 46]⟩, .string ⟨#[47, 37, 50, 101]⟩, .string ⟨#[47, 113, 47, 37, 50, 69, 46]⟩] 9))) := HB5.out.alloc HB5.out.size _
      rcases hn with ⟨rfl, rfl⟩ | ⟨rfl, rfl⟩
      · have hs1 : ∀ w, (Instr.sliceAt 9 (.string (strN f)) none (some (.int .i64 (7 + (hl : Int)))) none).run Tryd.prog w = .ok (.string (strN P)) w := by
          intro w; rw [show (7 + (hl : Int)) = ((7 + hl : Nat) : Int) by omega]; exact HS1.out w
        have hs2 : ∀ w, (Instr.sliceAt 9 (.string (strN f)) (some (.int .i64 (7 + (hl : Int)))) none none).run Tryd.prog w = .ok (.string (strN R)) w := by
          intro w; rw [show (7 + (hl : Int)) = ((7 + hl : Nat) : Int) by omega]; exact HS2.out w
        have HG1' : Hid (∀ w, Calls Tryd.prog 22 #[.string (strN f), .int .i64 (7 + (hl : Int))] w fun e w' => e = .returned (.string (strN g1)) ∧ Below w.heap.size w w') := by
          intro w; rw [show (7 + (hl : Int)) = ((7 + hl : Nat) : Int) by omega]; exact HG1.out w
        have HG2' : Hid (∀ w, Calls Tryd.prog 22 #[.string (strN f), .int .i64 (7 + (hl : Int) - (r5 : Int))] w fun e w' => e = .returned (.string (strN g2)) ∧ Below w.heap.size w w') := by
          intro w; rw [show (7 + (hl : Int) - (r5 : Int)) = ((7 + hl - r5 : Nat) : Int) by omega]; exact HG2.out w
        have hwj : IntKind.i64.wrap (j : Int) = (j : Int) := by rw [IntKind.wrap_i64]; omega
        have hwr : IntKind.i64.wrap (7 + (hl : Int) - (r5 : Int)) = 7 + (hl : Int) - (r5 : Int) := by rw [IntKind.wrap_i64]; omega
        clear HS1 HS2 HG1 HG2 HIdl
        go_wp2
        generalize w5.alloc (Obj.cells #[.string ⟨#[47, 46]⟩, .string ⟨#[47, 120, 47, 46, 46]⟩, .string ⟨#[47, 120, 47, 121, 47, 46, 46, 47, 46, 46]⟩, .string ⟨#[47, 46, 46]⟩, .string ⟨#[47, 46, 47, 46]⟩, .string ⟨#[47, 37, 50, 101]⟩, .string ⟨#[47, 113, 47, 37, 50, 69, 46]⟩] 9) = w6 at *
        clear hce
        refine wp_region_held_drew (S := fun w' => Below W.heap.size W w') rfl (Below.drew HB6.out) (fun hS => ?_)
        refine wpAnyH_take (i := 0) (v := ?_) rfl (by kernel_rfl) (by kernel_rfl) (by kernel_rfl) (fun _ _ _ h => h) (Or.inl ⟨by rfl, ?_⟩) hS ?_
        rotate_left 1
        · intro w hSw; (try dsimp only at hSw); go_simp <;> with_reducible rfl
        simp only [List.getElem_toArray, List.getElem_cons_zero, List.getElem_cons_succ, Act.put, List.setIfInBounds_toArray, List.set_cons_zero, List.set_cons_succ]
        refine wpAnyH_take (i := 1) (v := ?_) rfl (by kernel_rfl) (by kernel_rfl) (by kernel_rfl) (fun _ _ _ h => h) (Or.inl ⟨by rfl, ?_⟩) hS ?_
        rotate_left 1
        · intro w hSw; (try dsimp only at hSw); go_simp <;> with_reducible rfl
        simp only [List.getElem_toArray, List.getElem_cons_zero, List.getElem_cons_succ, Act.put, List.setIfInBounds_toArray, List.set_cons_zero, List.set_cons_succ]
        refine wpAnyH_take (i := 3) (v := ?_) rfl (by kernel_rfl) (by kernel_rfl) (by kernel_rfl) (fun _ _ _ h => h) (Or.inl ⟨by rfl, ?_⟩) hS ?_
        rotate_left 1
        · intro w hSw; (try dsimp only at hSw); go_simp <;> with_reducible rfl
        simp only [List.getElem_toArray, List.getElem_cons_zero, List.getElem_cons_succ, Act.put, List.setIfInBounds_toArray, List.set_cons_zero, List.set_cons_succ]
        refine wpAnyH_take (i := 4) (v := ?_) rfl (by kernel_rfl) (by kernel_rfl) (by kernel_rfl) (fun _ _ _ h => h) (Or.inl ⟨by rfl, ?_⟩) hS ?_
        rotate_left 1
        · intro w hSw; (try dsimp only at hSw); go_simp <;> with_reducible rfl
        simp only [List.getElem_toArray, List.getElem_cons_zero, List.getElem_cons_succ, Act.put, List.setIfInBounds_toArray, List.set_cons_zero, List.set_cons_succ]
        refine wpAnyH_take (i := 5) (v := ?_) rfl (by kernel_rfl) (by kernel_rfl) (by kernel_rfl) (fun _ _ _ h => h) (Or.inl ⟨by rfl, ?_⟩) hS ?_
        rotate_left 1
        · intro w hSw; (try dsimp only at hSw); go_simp <;> with_reducible rfl
        simp only [List.getElem_toArray, List.getElem_cons_zero, List.getElem_cons_succ, Act.put, List.setIfInBounds_toArray, List.set_cons_zero, List.set_cons_succ]
        refine wpAnyH_take (i := 6) (v := ?_) rfl (by kernel_rfl) (by kernel_rfl) (by kernel_rfl) (fun _ _ _ h => h) (Or.inl ⟨by rfl, ?_⟩) hS ?_
        rotate_left 1
        · intro w hSw; (try dsimp only at hSw); go_simp <;> with_reducible rfl
        simp only [List.getElem_toArray, List.getElem_cons_zero, List.getElem_cons_succ, Act.put, List.setIfInBounds_toArray, List.set_cons_zero, List.set_cons_succ]
        refine wpAnyH_take (i := 7) (v := ?_) rfl (by kernel_rfl) (by kernel_rfl) (by kernel_rfl) (fun _ _ _ h => h) (Or.inl ⟨by rfl, ?_⟩) hS ?_
        rotate_left 1
        · intro w hSw; (try dsimp only at hSw); go_simp <;> with_reducible rfl
        simp only [List.getElem_toArray, List.getElem_cons_zero, List.getElem_cons_succ, Act.put, List.setIfInBounds_toArray, List.set_cons_zero, List.set_cons_succ]
        refine wpAnyH_take (i := 8) (v := ?_) rfl (by kernel_rfl) (by kernel_rfl) (by kernel_rfl) (fun _ _ _ h => h) (Or.inl ⟨by rfl, ?_⟩) hS ?_
        rotate_left 1
        · intro w hSw; (try dsimp only at hSw); go_simp <;> with_reducible rfl
        simp only [List.getElem_toArray, List.getElem_cons_zero, List.getElem_cons_succ, Act.put, List.setIfInBounds_toArray, List.set_cons_zero, List.set_cons_succ]
        refine wpAnyH_take (i := 10) (v := ?_) rfl (by kernel_rfl) (by kernel_rfl) (by kernel_rfl) (fun _ _ _ h => h) (Or.inl ⟨by rfl, ?_⟩) hS ?_
        rotate_left 1
        · intro w hSw; (try dsimp only at hSw); go_simp <;> with_reducible rfl
        simp only [List.getElem_toArray, List.getElem_cons_zero, List.getElem_cons_succ, Act.put, List.setIfInBounds_toArray, List.set_cons_zero, List.set_cons_succ]
        refine wpAnyH_take (i := 11) (v := ?_) rfl (by kernel_rfl) (by kernel_rfl) (by kernel_rfl) (fun _ _ _ h => h) (Or.inl ⟨by rfl, ?_⟩) hS ?_
        rotate_left 1
        · intro w hSw; (try dsimp only at hSw); go_simp <;> with_reducible rfl
        simp only [List.getElem_toArray, List.getElem_cons_zero, List.getElem_cons_succ, Act.put, List.setIfInBounds_toArray, List.set_cons_zero, List.set_cons_succ]
        refine wpAnyH_take (i := 12) (v := ?_) rfl (by kernel_rfl) (by kernel_rfl) (by kernel_rfl) (fun _ _ _ h => h) (Or.inl ⟨by rfl, ?_⟩) hS ?_
        rotate_left 1
        · intro w hSw; (try dsimp only at hSw); go_simp <;> with_reducible rfl
        simp only [List.getElem_toArray, List.getElem_cons_zero, List.getElem_cons_succ, Act.put, List.setIfInBounds_toArray, List.set_cons_zero, List.set_cons_succ]
        refine wpAnyH_take (i := 13) (v := ?_) rfl (by kernel_rfl) (by kernel_rfl) (by kernel_rfl) (fun _ _ _ h => h) (Or.inl ⟨by rfl, ?_⟩) hS ?_
        rotate_left 1
        · intro w hSw; (try dsimp only at hSw); go_simp <;> with_reducible rfl
        simp only [List.getElem_toArray, List.getElem_cons_zero, List.getElem_cons_succ, Act.put, List.setIfInBounds_toArray, List.set_cons_zero, List.set_cons_succ]
        refine wpAnyH_take (i := 14) (v := ?_) rfl (by kernel_rfl) (by kernel_rfl) (by kernel_rfl) (fun _ _ _ h => h) (Or.inl ⟨by rfl, ?_⟩) hS ?_
        rotate_left 1
        · intro w hSw; (try dsimp only at hSw); go_simp <;> with_reducible rfl
        simp only [List.getElem_toArray, List.getElem_cons_zero, List.getElem_cons_succ, Act.put, List.setIfInBounds_toArray, List.set_cons_zero, List.set_cons_succ]
        refine wpAnyH_take (i := 15) (v := ?_) rfl (by kernel_rfl) (by kernel_rfl) (by kernel_rfl) (fun _ _ _ h => h) (Or.inl ⟨by rfl, ?_⟩) hS ?_
        rotate_left 1
        · intro w hSw; (try dsimp only at hSw); go_simp <;> with_reducible rfl
        simp only [List.getElem_toArray, List.getElem_cons_zero, List.getElem_cons_succ, Act.put, List.setIfInBounds_toArray, List.set_cons_zero, List.set_cons_succ]
        refine wpAnyH_take (i := 16) (v := ?_) rfl (by kernel_rfl) (by kernel_rfl) (by kernel_rfl) (fun _ _ _ h => h) (Or.inl ⟨by rfl, ?_⟩) hS ?_
        rotate_left 1
        · intro w hSw; (try dsimp only at hSw); go_simp <;> with_reducible rfl
        simp only [List.getElem_toArray, List.getElem_cons_zero, List.getElem_cons_succ, Act.put, List.setIfInBounds_toArray, List.set_cons_zero, List.set_cons_succ]
        refine wpAnyH_take (i := 17) (v := ?_) rfl (by kernel_rfl) (by kernel_rfl) (by kernel_rfl) (fun _ _ _ h => h) (Or.inl ⟨by rfl, ?_⟩) hS ?_
        rotate_left 1
        · intro w hSw; (try dsimp only at hSw); go_simp <;> with_reducible rfl
        simp only [List.getElem_toArray, List.getElem_cons_zero, List.getElem_cons_succ, Act.put, List.setIfInBounds_toArray, List.set_cons_zero, List.set_cons_succ]
        refine wpAnyH_take (i := 18) (v := ?_) rfl (by kernel_rfl) (by kernel_rfl) (by kernel_rfl) (fun _ _ _ h => h) (Or.inl ⟨by rfl, ?_⟩) hS ?_
        rotate_left 1
        · intro w hSw; (try dsimp only at hSw); go_simp <;> with_reducible rfl
        simp only [List.getElem_toArray, List.getElem_cons_zero, List.getElem_cons_succ, Act.put, List.setIfInBounds_toArray, List.set_cons_zero, List.set_cons_succ]
        refine wpAnyH_take (i := 21) (v := ?_) rfl (by kernel_rfl) (by kernel_rfl) (by kernel_rfl) (fun _ _ _ h => h) (Or.inl ⟨by rfl, ?_⟩) hS ?_
        rotate_left 1
        · intro w hSw; (try dsimp only at hSw); go_simp <;> with_reducible rfl
        simp only [List.getElem_toArray, List.getElem_cons_zero, List.getElem_cons_succ, Act.put, List.setIfInBounds_toArray, List.set_cons_zero, List.set_cons_succ]
        refine wpAnyH_ready (rs := [2]) (by kernel_rfl) (by simp) ?_
        refine AllReadyH.cons rfl (fun K hK => ?_) AllReadyH.nil
        go_simp
        refine Calls.mono (HG1'.out _) ?_
        rintro e w7 ⟨rfl, hb7⟩
        have HB7 : Hid (Below W.heap.size W w7) := (Below.drew HB6.out).trans (hb7.mono (Below.drew HB6.out).size)
        refine hK.out _ _ HB7.out (fun hS => ?_)
        clear hK K hb7
        try simp only [List.getElem_toArray, List.getElem_cons_zero, List.getElem_cons_succ, Act.put, List.setIfInBounds_toArray, List.set_cons_zero, List.set_cons_succ]
        refine wpAnyH_ready (rs := [9]) (by kernel_rfl) (by simp) ?_
        refine AllReadyH.cons rfl (fun K hK => ?_) AllReadyH.nil
        go_simp
        refine Calls.mono (HG2'.out _) ?_
        rintro e w8 ⟨rfl, hb8⟩
        have HB8 : Hid (Below W.heap.size W w8) := HB7.out.trans (hb8.mono HB7.out.size)
        refine hK.out _ _ HB8.out (fun hS => ?_)
        clear hK K hb8
        try simp only [List.getElem_toArray, List.getElem_cons_zero, List.getElem_cons_succ, Act.put, List.setIfInBounds_toArray, List.set_cons_zero, List.set_cons_succ]
        refine wpAnyH_ready (rs := [19]) (by kernel_rfl) (by simp) ?_
        refine AllReadyH.cons rfl (fun K hK => ?_) AllReadyH.nil
        go_simp
        have HB9 : Hid (Below W.heap.size W (w8.alloc (Obj.cells #[.string (strN g1), .string (strN g2), .string (strN V)] 9))) := HB8.out.alloc HB8.out.size _
        refine hK.out _ _ HB9.out (fun hS => ?_)
        clear hK K
        try simp only [List.getElem_toArray, List.getElem_cons_zero, List.getElem_cons_succ, Act.put, List.setIfInBounds_toArray, List.set_cons_zero, List.set_cons_succ]
        refine wpAnyH_take (i := 20) (v := ?_) rfl (by kernel_rfl) (by kernel_rfl) (by kernel_rfl) (fun _ _ _ h => h) (Or.inl ⟨by rfl, ?_⟩) hS ?_
        rotate_left 1
        · intro w hSw; (try dsimp only at hSw); go_simp <;> with_reducible rfl
        simp only [List.getElem_toArray, List.getElem_cons_zero, List.getElem_cons_succ, Act.put, List.setIfInBounds_toArray, List.set_cons_zero, List.set_cons_succ]
        refine wpAnyH_done (by kernel_rfl) ?_ _
        clear hS
        have HCe : Hid (∀ q v, [g1, g2, V][q]? = some v → (w8.alloc (Obj.cells #[.string (strN g1), .string (strN g2), .string (strN V)] 9)).cell? ⟨w8.heap.size, q, none⟩ = some (.string (strN v))) := by
          intro q v hq
          have hql : q < [g1, g2, V].length := (List.getElem?_eq_some_iff.1 hq).1
          have := txt_cell w8 [g1, g2, V] q hql
          rw [hq] at this
          exact this
        go_wp2
        generalize w8.alloc (Obj.cells #[.string (strN g1), .string (strN g2), .string (strN V)] 9) = w9 at *
        obtain ⟨g, hg⟩ : ∃ g, g = w8.heap.size := ⟨_, rfl⟩
        rw [← hg] at HCe ⊢
        clear hg hc1 hc2 hs1 hs2
        go_loopw [79] (fun i wr => ∃ q : Nat, q ≤ 3 ∧ i = .int .i64 (q : Int) ∧ Below w9.heap.size w9 wr) (fun i _ => 3 - (intOf i).toNat)
        case atStart => exact ⟨0, by omega, rfl, Below.refl _ _⟩
        case round =>
          obtain ⟨q, hq, rfl, hbw⟩ := hrel
          have HBw : Hid _ := hbw
          have HBW : Hid _ := HB9.out.trans (hbw.mono HB9.out.size)
          by_cases hq3 : q < 3
          · obtain ⟨v, hv⟩ : ∃ v, [g1, g2, V][q]? = some v := ⟨[g1, g2, V][q]'(by simpa using hq3), List.getElem?_eq_getElem _⟩
            have hcx := cell_later (HCe.out q v hv) hbw
            obtain ⟨hvb, hvl, hpv⟩ := HTb.out v (List.mem_of_getElem? hv)
            have HP1 : Hid (∀ w, MaxLen w → Calls Tryd.prog 15 #[.string (strN v)] w fun e w' => e = .returned (.tuple #[.string (strN f), .int .i64 0]) ∧ Below w.heap.size w w') := fun w ht => parse_at v f 0 w ht hvb (by omega) hpv
            have hne : ((strN f).toList != (strN f).toList) = false := by simp
            clear hv hbw hpv
            go_wp2_with fail
            refine Calls.mono (HP1.out _ (MaxLen.later HT.out HBW.out)) ?_
            rintro e w10 ⟨rfl, hb10⟩
            have HB10 : Hid _ := HBw.out.trans (hb10.mono HBw.out.size)
            clear hb10
            go_wp2
            go_roundw
            case rel => exact ⟨q + 1, by omega, by simp, HB10.out⟩
            case measure => simp [intOf]; omega
          · clear hbw
            go_wp2
            go_ret
            exact ⟨rfl, HBW.out⟩
      · have hs1 : ∀ w, (Instr.sliceAt 9 (.string (strN f)) none (some (.int .i64 (7 + (hl : Int) + 1))) none).run Tryd.prog w = .ok (.string (strN P)) w := by
          intro w; rw [show (7 + (hl : Int) + 1) = ((8 + hl : Nat) : Int) by omega]; exact HS1.out w
        have hs2 : ∀ w, (Instr.sliceAt 9 (.string (strN f)) (some (.int .i64 (7 + (hl : Int) + 1))) none none).run Tryd.prog w = .ok (.string (strN R)) w := by
          intro w; rw [show (7 + (hl : Int) + 1) = ((8 + hl : Nat) : Int) by omega]; exact HS2.out w
        have HG1' : Hid (∀ w, Calls Tryd.prog 22 #[.string (strN f), .int .i64 (7 + (hl : Int) + 1)] w fun e w' => e = .returned (.string (strN g1)) ∧ Below w.heap.size w w') := by
          intro w; rw [show (7 + (hl : Int) + 1) = ((8 + hl : Nat) : Int) by omega]; exact HG1.out w
        have HG2' : Hid (∀ w, Calls Tryd.prog 22 #[.string (strN f), .int .i64 (7 + (hl : Int) + 1 - (r5 : Int))] w fun e w' => e = .returned (.string (strN g2)) ∧ Below w.heap.size w w') := by
          intro w; rw [show (7 + (hl : Int) + 1 - (r5 : Int)) = ((8 + hl - r5 : Nat) : Int) by omega]; exact HG2.out w
        have hwj : IntKind.i64.wrap (j : Int) = (j : Int) := by rw [IntKind.wrap_i64]; omega
        have hwr : IntKind.i64.wrap (7 + (hl : Int) + 1 - (r5 : Int)) = 7 + (hl : Int) + 1 - (r5 : Int) := by rw [IntKind.wrap_i64]; omega
        clear HS1 HS2 HG1 HG2 HIdl
        go_wp2
        generalize w5.alloc (Obj.cells #[.string ⟨#[47, 46]⟩, .string ⟨#[47, 120, 47, 46, 46]⟩, .string ⟨#[47, 120, 47, 121, 47, 46, 46, 47, 46, 46]⟩, .string ⟨#[47, 46, 46]⟩, .string ⟨#[47, 46, 47, 46]⟩, .string ⟨#[47, 37, 50, 101]⟩, .string ⟨#[47, 113, 47, 37, 50, 69, 46]⟩] 9) = w6 at *
        clear hce
        refine wp_region_held_drew (S := fun w' => Below W.heap.size W w') rfl (Below.drew HB6.out) (fun hS => ?_)
        refine wpAnyH_take (i := 0) (v := ?_) rfl (by kernel_rfl) (by kernel_rfl) (by kernel_rfl) (fun _ _ _ h => h) (Or.inl ⟨by rfl, ?_⟩) hS ?_
        rotate_left 1
        · intro w hSw; (try dsimp only at hSw); go_simp <;> with_reducible rfl
        simp only [List.getElem_toArray, List.getElem_cons_zero, List.getElem_cons_succ, Act.put, List.setIfInBounds_toArray, List.set_cons_zero, List.set_cons_succ]
        refine wpAnyH_take (i := 1) (v := ?_) rfl (by kernel_rfl) (by kernel_rfl) (by kernel_rfl) (fun _ _ _ h => h) (Or.inl ⟨by rfl, ?_⟩) hS ?_
        rotate_left 1
        · intro w hSw; (try dsimp only at hSw); go_simp <;> with_reducible rfl
        simp only [List.getElem_toArray, List.getElem_cons_zero, List.getElem_cons_succ, Act.put, List.setIfInBounds_toArray, List.set_cons_zero, List.set_cons_succ]
        refine wpAnyH_take (i := 3) (v := ?_) rfl (by kernel_rfl) (by kernel_rfl) (by kernel_rfl) (fun _ _ _ h => h) (Or.inl ⟨by rfl, ?_⟩) hS ?_
        rotate_left 1
        · intro w hSw; (try dsimp only at hSw); go_simp <;> with_reducible rfl
        simp only [List.getElem_toArray, List.getElem_cons_zero, List.getElem_cons_succ, Act.put, List.setIfInBounds_toArray, List.set_cons_zero, List.set_cons_succ]
        refine wpAnyH_take (i := 4) (v := ?_) rfl (by kernel_rfl) (by kernel_rfl) (by kernel_rfl) (fun _ _ _ h => h) (Or.inl ⟨by rfl, ?_⟩) hS ?_
        rotate_left 1
        · intro w hSw; (try dsimp only at hSw); go_simp <;> with_reducible rfl
        simp only [List.getElem_toArray, List.getElem_cons_zero, List.getElem_cons_succ, Act.put, List.setIfInBounds_toArray, List.set_cons_zero, List.set_cons_succ]
        refine wpAnyH_take (i := 5) (v := ?_) rfl (by kernel_rfl) (by kernel_rfl) (by kernel_rfl) (fun _ _ _ h => h) (Or.inl ⟨by rfl, ?_⟩) hS ?_
        rotate_left 1
        · intro w hSw; (try dsimp only at hSw); go_simp <;> with_reducible rfl
        simp only [List.getElem_toArray, List.getElem_cons_zero, List.getElem_cons_succ, Act.put, List.setIfInBounds_toArray, List.set_cons_zero, List.set_cons_succ]
        refine wpAnyH_take (i := 6) (v := ?_) rfl (by kernel_rfl) (by kernel_rfl) (by kernel_rfl) (fun _ _ _ h => h) (Or.inl ⟨by rfl, ?_⟩) hS ?_
        rotate_left 1
        · intro w hSw; (try dsimp only at hSw); go_simp <;> with_reducible rfl
        simp only [List.getElem_toArray, List.getElem_cons_zero, List.getElem_cons_succ, Act.put, List.setIfInBounds_toArray, List.set_cons_zero, List.set_cons_succ]
        refine wpAnyH_take (i := 7) (v := ?_) rfl (by kernel_rfl) (by kernel_rfl) (by kernel_rfl) (fun _ _ _ h => h) (Or.inl ⟨by rfl, ?_⟩) hS ?_
        rotate_left 1
        · intro w hSw; (try dsimp only at hSw); go_simp <;> with_reducible rfl
        simp only [List.getElem_toArray, List.getElem_cons_zero, List.getElem_cons_succ, Act.put, List.setIfInBounds_toArray, List.set_cons_zero, List.set_cons_succ]
        refine wpAnyH_take (i := 8) (v := ?_) rfl (by kernel_rfl) (by kernel_rfl) (by kernel_rfl) (fun _ _ _ h => h) (Or.inl ⟨by rfl, ?_⟩) hS ?_
        rotate_left 1
        · intro w hSw; (try dsimp only at hSw); go_simp <;> with_reducible rfl
        simp only [List.getElem_toArray, List.getElem_cons_zero, List.getElem_cons_succ, Act.put, List.setIfInBounds_toArray, List.set_cons_zero, List.set_cons_succ]
        refine wpAnyH_take (i := 10) (v := ?_) rfl (by kernel_rfl) (by kernel_rfl) (by kernel_rfl) (fun _ _ _ h => h) (Or.inl ⟨by rfl, ?_⟩) hS ?_
        rotate_left 1
        · intro w hSw; (try dsimp only at hSw); go_simp <;> with_reducible rfl
        simp only [List.getElem_toArray, List.getElem_cons_zero, List.getElem_cons_succ, Act.put, List.setIfInBounds_toArray, List.set_cons_zero, List.set_cons_succ]
        refine wpAnyH_take (i := 11) (v := ?_) rfl (by kernel_rfl) (by kernel_rfl) (by kernel_rfl) (fun _ _ _ h => h) (Or.inl ⟨by rfl, ?_⟩) hS ?_
        rotate_left 1
        · intro w hSw; (try dsimp only at hSw); go_simp <;> with_reducible rfl
        simp only [List.getElem_toArray, List.getElem_cons_zero, List.getElem_cons_succ, Act.put, List.setIfInBounds_toArray, List.set_cons_zero, List.set_cons_succ]
        refine wpAnyH_take (i := 12) (v := ?_) rfl (by kernel_rfl) (by kernel_rfl) (by kernel_rfl) (fun _ _ _ h => h) (Or.inl ⟨by rfl, ?_⟩) hS ?_
        rotate_left 1
        · intro w hSw; (try dsimp only at hSw); go_simp <;> with_reducible rfl
        simp only [List.getElem_toArray, List.getElem_cons_zero, List.getElem_cons_succ, Act.put, List.setIfInBounds_toArray, List.set_cons_zero, List.set_cons_succ]
        refine wpAnyH_take (i := 13) (v := ?_) rfl (by kernel_rfl) (by kernel_rfl) (by kernel_rfl) (fun _ _ _ h => h) (Or.inl ⟨by rfl, ?_⟩) hS ?_
        rotate_left 1
        · intro w hSw; (try dsimp only at hSw); go_simp <;> with_reducible rfl
        simp only [List.getElem_toArray, List.getElem_cons_zero, List.getElem_cons_succ, Act.put, List.setIfInBounds_toArray, List.set_cons_zero, List.set_cons_succ]
        refine wpAnyH_take (i := 14) (v := ?_) rfl (by kernel_rfl) (by kernel_rfl) (by kernel_rfl) (fun _ _ _ h => h) (Or.inl ⟨by rfl, ?_⟩) hS ?_
        rotate_left 1
        · intro w hSw; (try dsimp only at hSw); go_simp <;> with_reducible rfl
        simp only [List.getElem_toArray, List.getElem_cons_zero, List.getElem_cons_succ, Act.put, List.setIfInBounds_toArray, List.set_cons_zero, List.set_cons_succ]
        refine wpAnyH_take (i := 15) (v := ?_) rfl (by kernel_rfl) (by kernel_rfl) (by kernel_rfl) (fun _ _ _ h => h) (Or.inl ⟨by rfl, ?_⟩) hS ?_
        rotate_left 1
        · intro w hSw; (try dsimp only at hSw); go_simp <;> with_reducible rfl
        simp only [List.getElem_toArray, List.getElem_cons_zero, List.getElem_cons_succ, Act.put, List.setIfInBounds_toArray, List.set_cons_zero, List.set_cons_succ]
        refine wpAnyH_take (i := 16) (v := ?_) rfl (by kernel_rfl) (by kernel_rfl) (by kernel_rfl) (fun _ _ _ h => h) (Or.inl ⟨by rfl, ?_⟩) hS ?_
        rotate_left 1
        · intro w hSw; (try dsimp only at hSw); go_simp <;> with_reducible rfl
        simp only [List.getElem_toArray, List.getElem_cons_zero, List.getElem_cons_succ, Act.put, List.setIfInBounds_toArray, List.set_cons_zero, List.set_cons_succ]
        refine wpAnyH_take (i := 17) (v := ?_) rfl (by kernel_rfl) (by kernel_rfl) (by kernel_rfl) (fun _ _ _ h => h) (Or.inl ⟨by rfl, ?_⟩) hS ?_
        rotate_left 1
        · intro w hSw; (try dsimp only at hSw); go_simp <;> with_reducible rfl
        simp only [List.getElem_toArray, List.getElem_cons_zero, List.getElem_cons_succ, Act.put, List.setIfInBounds_toArray, List.set_cons_zero, List.set_cons_succ]
        refine wpAnyH_take (i := 18) (v := ?_) rfl (by kernel_rfl) (by kernel_rfl) (by kernel_rfl) (fun _ _ _ h => h) (Or.inl ⟨by rfl, ?_⟩) hS ?_
        rotate_left 1
        · intro w hSw; (try dsimp only at hSw); go_simp <;> with_reducible rfl
        simp only [List.getElem_toArray, List.getElem_cons_zero, List.getElem_cons_succ, Act.put, List.setIfInBounds_toArray, List.set_cons_zero, List.set_cons_succ]
        refine wpAnyH_take (i := 21) (v := ?_) rfl (by kernel_rfl) (by kernel_rfl) (by kernel_rfl) (fun _ _ _ h => h) (Or.inl ⟨by rfl, ?_⟩) hS ?_
        rotate_left 1
        · intro w hSw; (try dsimp only at hSw); go_simp <;> with_reducible rfl
        simp only [List.getElem_toArray, List.getElem_cons_zero, List.getElem_cons_succ, Act.put, List.setIfInBounds_toArray, List.set_cons_zero, List.set_cons_succ]
        refine wpAnyH_ready (rs := [2]) (by kernel_rfl) (by simp) ?_
        refine AllReadyH.cons rfl (fun K hK => ?_) AllReadyH.nil
        go_simp
        refine Calls.mono (HG1'.out _) ?_
        rintro e w7 ⟨rfl, hb7⟩
        have HB7 : Hid (Below W.heap.size W w7) := (Below.drew HB6.out).trans (hb7.mono (Below.drew HB6.out).size)
        refine hK.out _ _ HB7.out (fun hS => ?_)
        clear hK K hb7
        try simp only [List.getElem_toArray, List.getElem_cons_zero, List.getElem_cons_succ, Act.put, List.setIfInBounds_toArray, List.set_cons_zero, List.set_cons_succ]
        refine wpAnyH_ready (rs := [9]) (by kernel_rfl) (by simp) ?_
        refine AllReadyH.cons rfl (fun K hK => ?_) AllReadyH.nil
        go_simp
        refine Calls.mono (HG2'.out _) ?_
        rintro e w8 ⟨rfl, hb8⟩
        have HB8 : Hid (Below W.heap.size W w8) := HB7.out.trans (hb8.mono HB7.out.size)
        refine hK.out _ _ HB8.out (fun hS => ?_)
        clear hK K hb8
        try simp only [List.getElem_toArray, List.getElem_cons_zero, List.getElem_cons_succ, Act.put, List.setIfInBounds_toArray, List.set_cons_zero, List.set_cons_succ]
        refine wpAnyH_ready (rs := [19]) (by kernel_rfl) (by simp) ?_
        refine AllReadyH.cons rfl (fun K hK => ?_) AllReadyH.nil
        go_simp
        have HB9 : Hid (Below W.heap.size W (w8.alloc (Obj.cells #[.string (strN g1), .string (strN g2), .string (strN V)] 9))) := HB8.out.alloc HB8.out.size _
        refine hK.out _ _ HB9.out (fun hS => ?_)
        clear hK K
        try simp only [List.getElem_toArray, List.getElem_cons_zero, List.getElem_cons_succ, Act.put, List.setIfInBounds_toArray, List.set_cons_zero, List.set_cons_succ]
        refine wpAnyH_take (i := 20) (v := ?_) rfl (by kernel_rfl) (by kernel_rfl) (by kernel_rfl) (fun _ _ _ h => h) (Or.inl ⟨by rfl, ?_⟩) hS ?_
        rotate_left 1
        · intro w hSw; (try dsimp only at hSw); go_simp <;> with_reducible rfl
        simp only [List.getElem_toArray, List.getElem_cons_zero, List.getElem_cons_succ, Act.put, List.setIfInBounds_toArray, List.set_cons_zero, List.set_cons_succ]
        refine wpAnyH_done (by kernel_rfl) ?_ _
        clear hS
        have HCe : Hid (∀ q v, [g1, g2, V][q]? = some v → (w8.alloc (Obj.cells #[.string (strN g1), .string (strN g2), .string (strN V)] 9)).cell? ⟨w8.heap.size, q, none⟩ = some (.string (strN v))) := by
          intro q v hq
          have hql : q < [g1, g2, V].length := (List.getElem?_eq_some_iff.1 hq).1
          have := txt_cell w8 [g1, g2, V] q hql
          rw [hq] at this
          exact this
        go_wp2
        generalize w8.alloc (Obj.cells #[.string (strN g1), .string (strN g2), .string (strN V)] 9) = w9 at *
        obtain ⟨g, hg⟩ : ∃ g, g = w8.heap.size := ⟨_, rfl⟩
        rw [← hg] at HCe ⊢
        clear hg hc1 hc2 hs1 hs2
        go_loopw [79] (fun i wr => ∃ q : Nat, q ≤ 3 ∧ i = .int .i64 (q : Int) ∧ Below w9.heap.size w9 wr) (fun i _ => 3 - (intOf i).toNat)
        case atStart => exact ⟨0, by omega, rfl, Below.refl _ _⟩
        case round =>
          obtain ⟨q, hq, rfl, hbw⟩ := hrel
          have HBw : Hid _ := hbw
          have HBW : Hid _ := HB9.out.trans (hbw.mono HB9.out.size)
          by_cases hq3 : q < 3
          · obtain ⟨v, hv⟩ : ∃ v, [g1, g2, V][q]? = some v := ⟨[g1, g2, V][q]'(by simpa using hq3), List.getElem?_eq_getElem _⟩
            have hcx := cell_later (HCe.out q v hv) hbw
            obtain ⟨hvb, hvl, hpv⟩ := HTb.out v (List.mem_of_getElem? hv)
            have HP1 : Hid (∀ w, MaxLen w → Calls Tryd.prog 15 #[.string (strN v)] w fun e w' => e = .returned (.tuple #[.string (strN f), .int .i64 0]) ∧ Below w.heap.size w w') := fun w ht => parse_at v f 0 w ht hvb (by omega) hpv
            have hne : ((strN f).toList != (strN f).toList) = false := by simp
            clear hv hbw hpv
            go_wp2_with fail
            refine Calls.mono (HP1.out _ (MaxLen.later HT.out HBW.out)) ?_
            rintro e w10 ⟨rfl, hb10⟩
            have HB10 : Hid _ := HBw.out.trans (hb10.mono HBw.out.size)
            clear hb10
            go_wp2
            go_roundw
            case rel => exact ⟨q + 1, by omega, by simp, HB10.out⟩
            case measure => simp [intOf]; omega
          · clear hbw
            go_wp2
            go_ret
            exact ⟨rfl, HBW.out⟩
    · have hen : ((e : Int) != 0) = true := by simp; omega
      have hee : ((e : Int) == 0) = false := by simp; omega
      have HPV := HAf
      have HAB : ∀ c ∈ A, c < 256 := hab
      clear hpv hfb HAf he
      obtain ⟨n, c4, hn, hc4, hhf, hlen8, hal2, hnl, hgr, hid⟩ := same_math HPV
      have hr5n : r5 ≤ n + (hostOf A).length := by omega
      have hgp1 := hgr (n + (hostOf A).length) (Nat.le_refl _)
      have hgp2 := hgr (n + (hostOf A).length - r5) (by omega)
      have hip := hid Q HQ.out
      have hab2 : ∀ c ∈ A, c < 256 := HAB
      have HHo : Hid (∀ w, MaxLen w → _) := fun w ht => host_any A w ht hab2 (by omega)
      have hhb := hostOf_lt A hab2
      have hQb := idles_lt Q HQ.out
      have HG1 : Hid (∀ w, _) := fun w => great_any A (n + (hostOf A).length) w hab2 (by omega) (by omega)
      have HG2 : Hid (∀ w, _) := fun w => great_any A (n + (hostOf A).length - r5) w hab2 (by omega) (by omega)
      have HS1 : Hid (∀ w, _) := fun w => slice_to (w := w) A _ (n + (hostOf A).length) (by omega) rfl
      have HS2 : Hid (∀ w, _) := fun w => slice_from (w := w) A _ (n + (hostOf A).length) (by omega) rfl
      have hPb : ∀ c ∈ A.take (n + (hostOf A).length), c < 256 := fun c hc => hab2 c (List.mem_of_mem_take hc)
      have hRb : ∀ c ∈ A.drop (n + (hostOf A).length), c < 256 := fun c hc => hab2 c (List.mem_of_mem_drop hc)
      have hPl : (A.take (n + (hostOf A).length)).length ≤ 200 := by rw [List.length_take]; omega
      have hRl : (A.drop (n + (hostOf A).length)).length ≤ 200 := by rw [List.length_drop]; omega
      have hg1b := greatL_lt (n := n + (hostOf A).length) hab2
      have hg2b := greatL_lt (n := n + (hostOf A).length - r5) hab2
      have hg1l := greatL_len (n + (hostOf A).length) A
      have hg2l := greatL_len (n + (hostOf A).length - r5) A
      generalize greatL (n + (hostOf A).length) A = g1 at *
      generalize greatL (n + (hostOf A).length - r5) A = g2 at *
      generalize A.take (n + (hostOf A).length) = P at *
      generalize A.drop (n + (hostOf A).length) = R at *
      obtain ⟨PQ, hPQ⟩ : ∃ x, x = P ++ Q := ⟨_, rfl⟩
      obtain ⟨V, hV⟩ : ∃ x, x = PQ ++ R := ⟨_, rfl⟩
      have hc1 : ∀ w, (Op.stringOp BinOp.add (strN P) (strN Q)).run Tryd.prog w = .ok (.string (strN PQ)) w := by rw [hPQ]; exact sum_strN P Q (by omega)
      have hc2 : ∀ w, (Op.stringOp BinOp.add (strN PQ) (strN R)).run Tryd.prog w = .ok (.string (strN V)) w := by rw [hV]; exact sum_strN PQ R (by rw [hPQ]; simp; omega)
      have HTb : Hid (∀ v ∈ [g1, g2, V], (∀ c ∈ v, c < 256) ∧ v.length ≤ 600 ∧ parse v = (A, 0)) := by
        intro v hv
        simp at hv
        rcases hv with rfl | rfl | rfl
        · exact ⟨hg1b, by omega, hgp1⟩
        · exact ⟨hg2b, by omega, hgp2⟩
        · refine ⟨?_, ?_, ?_⟩
          · rw [hV, hPQ]; exact app_lt (app_lt hPb hQb.1) hRb
          · rw [hV, hPQ]; simp; omega
          · rw [hV, hPQ]; exact hip
      have haz := strN_size A
      have hix4 : ∀ w, (Instr.index 9 (.string (strN A)) (.int .i64 4)).run Tryd.prog w = .ok (.int .u8 (c4 : Int)) w := by
        intro w
        have := index_strN A hab2 4 (by omega) .i64 w
        rw [hc4] at this
        exact this
      have hhe : ((strN (hostOf A)).toList == []) = false := by rw [eq_lit [] [] rfl hhb (by simp)]; simpa using hhf
      have hhz := strN_size (hostOf A)
      obtain ⟨hl, hhl⟩ : ∃ n, n = (hostOf A).length := ⟨_, rfl⟩
      obtain ⟨al, hal3⟩ : ∃ n, n = A.length := ⟨_, rfl⟩
      rw [← hhl] at hhz hnl hlen8 HG1 HG2 HS1 HS2
      rw [← hal3] at haz hnl hlen8 hal2
      generalize hostOf A = h at *
      clear hhl hal3 hPQ hV hc4 hhf hgr hid hgp1 hgp2 hip hg1b hg2b hg1l hg2l hPb hRb hhb hQb HPV HAB hab2 HQ hr5n
      go_enter Tryd.func7, Tryd.ntmps7
      go_wp2_with fail
      refine Calls.mono HK.out ?_
      rintro e w1 ⟨rfl, hb1⟩
      have HB1 : Hid _ := hb1
      clear hb1
      go_wp2_with fail
      refine Calls.mono (HAd.out _) ?_
      rintro e w2 ⟨rfl, hb2⟩
      have HB2 : Hid _ := HB1.out.trans (hb2.mono HB1.out.size)
      clear hb2
      go_wp2_with fail
      refine Calls.mono (HP0.out _ (MaxLen.later HT.out HB2.out)) ?_
      rintro e w3 ⟨rfl, hb3⟩
      have HB3 : Hid _ := HB2.out.trans (hb3.mono HB2.out.size)
      clear hb3
      go_wp2_with fail
      refine Calls.mono (HAd.out _) ?_
      rintro e w4 ⟨rfl, hb4⟩
      have HB4 : Hid _ := HB3.out.trans (hb4.mono HB3.out.size)
      clear hb4
      go_wp2_with fail
      refine Calls.mono (HHo.out _ (MaxLen.later HT.out HB4.out)) ?_
      rintro e w5 ⟨rfl, hb5⟩
      have HB5 : Hid _ := HB4.out.trans (hb5.mono HB4.out.size)
      clear hb5
      have hce := HIdl.out w5
      have HB6 : Hid (Below W.heap.size W (w5.alloc (Obj.cells #[.string ⟨#[47, 46]⟩, .string ⟨#[47, 120, 47, 46, 46]⟩, .string ⟨#[47, 120, 47, 121, 47, 46, 46, 47, 46, 46]⟩, .string ⟨#[47, 46, 46]⟩, .string ⟨#[47, 46, 47, 46]⟩, .string ⟨#[47, 37, 50, 101]⟩, .string ⟨#[47, 113, 47, 37, 50, 69, 46]⟩] 9))) := HB5.out.alloc HB5.out.size _
      rcases hn with ⟨rfl, rfl⟩ | ⟨rfl, rfl⟩
      · have hs1 : ∀ w, (Instr.sliceAt 9 (.string (strN A)) none (some (.int .i64 (7 + (hl : Int)))) none).run Tryd.prog w = .ok (.string (strN P)) w := by
          intro w; rw [show (7 + (hl : Int)) = ((7 + hl : Nat) : Int) by omega]; exact HS1.out w
        have hs2 : ∀ w, (Instr.sliceAt 9 (.string (strN A)) (some (.int .i64 (7 + (hl : Int)))) none none).run Tryd.prog w = .ok (.string (strN R)) w := by
          intro w; rw [show (7 + (hl : Int)) = ((7 + hl : Nat) : Int) by omega]; exact HS2.out w
        have HG1' : Hid (∀ w, Calls Tryd.prog 22 #[.string (strN A), .int .i64 (7 + (hl : Int))] w fun e w' => e = .returned (.string (strN g1)) ∧ Below w.heap.size w w') := by
          intro w; rw [show (7 + (hl : Int)) = ((7 + hl : Nat) : Int) by omega]; exact HG1.out w
        have HG2' : Hid (∀ w, Calls Tryd.prog 22 #[.string (strN A), .int .i64 (7 + (hl : Int) - (r5 : Int))] w fun e w' => e = .returned (.string (strN g2)) ∧ Below w.heap.size w w') := by
          intro w; rw [show (7 + (hl : Int) - (r5 : Int)) = ((7 + hl - r5 : Nat) : Int) by omega]; exact HG2.out w
        have hwj : IntKind.i64.wrap (j : Int) = (j : Int) := by rw [IntKind.wrap_i64]; omega
        have hwr : IntKind.i64.wrap (7 + (hl : Int) - (r5 : Int)) = 7 + (hl : Int) - (r5 : Int) := by rw [IntKind.wrap_i64]; omega
        clear HS1 HS2 HG1 HG2 HIdl
        go_wp2
        generalize w5.alloc (Obj.cells #[.string ⟨#[47, 46]⟩, .string ⟨#[47, 120, 47, 46, 46]⟩, .string ⟨#[47, 120, 47, 121, 47, 46, 46, 47, 46, 46]⟩, .string ⟨#[47, 46, 46]⟩, .string ⟨#[47, 46, 47, 46]⟩, .string ⟨#[47, 37, 50, 101]⟩, .string ⟨#[47, 113, 47, 37, 50, 69, 46]⟩] 9) = w6 at *
        clear hce
        refine wp_region_held_drew (S := fun w' => Below W.heap.size W w') rfl (Below.drew HB6.out) (fun hS => ?_)
        refine wpAnyH_take (i := 0) (v := ?_) rfl (by kernel_rfl) (by kernel_rfl) (by kernel_rfl) (fun _ _ _ h => h) (Or.inl ⟨by rfl, ?_⟩) hS ?_
        rotate_left 1
        · intro w hSw; (try dsimp only at hSw); go_simp <;> with_reducible rfl
        simp only [List.getElem_toArray, List.getElem_cons_zero, List.getElem_cons_succ, Act.put, List.setIfInBounds_toArray, List.set_cons_zero, List.set_cons_succ]
        refine wpAnyH_take (i := 1) (v := ?_) rfl (by kernel_rfl) (by kernel_rfl) (by kernel_rfl) (fun _ _ _ h => h) (Or.inl ⟨by rfl, ?_⟩) hS ?_
        rotate_left 1
        · intro w hSw; (try dsimp only at hSw); go_simp <;> with_reducible rfl
        simp only [List.getElem_toArray, List.getElem_cons_zero, List.getElem_cons_succ, Act.put, List.setIfInBounds_toArray, List.set_cons_zero, List.set_cons_succ]
        refine wpAnyH_take (i := 3) (v := ?_) rfl (by kernel_rfl) (by kernel_rfl) (by kernel_rfl) (fun _ _ _ h => h) (Or.inl ⟨by rfl, ?_⟩) hS ?_
        rotate_left 1
        · intro w hSw; (try dsimp only at hSw); go_simp <;> with_reducible rfl
        simp only [List.getElem_toArray, List.getElem_cons_zero, List.getElem_cons_succ, Act.put, List.setIfInBounds_toArray, List.set_cons_zero, List.set_cons_succ]
        refine wpAnyH_take (i := 4) (v := ?_) rfl (by kernel_rfl) (by kernel_rfl) (by kernel_rfl) (fun _ _ _ h => h) (Or.inl ⟨by rfl, ?_⟩) hS ?_
        rotate_left 1
        · intro w hSw; (try dsimp only at hSw); go_simp <;> with_reducible rfl
        simp only [List.getElem_toArray, List.getElem_cons_zero, List.getElem_cons_succ, Act.put, List.setIfInBounds_toArray, List.set_cons_zero, List.set_cons_succ]
        refine wpAnyH_take (i := 5) (v := ?_) rfl (by kernel_rfl) (by kernel_rfl) (by kernel_rfl) (fun _ _ _ h => h) (Or.inl ⟨by rfl, ?_⟩) hS ?_
        rotate_left 1
        · intro w hSw; (try dsimp only at hSw); go_simp <;> with_reducible rfl
        simp only [List.getElem_toArray, List.getElem_cons_zero, List.getElem_cons_succ, Act.put, List.setIfInBounds_toArray, List.set_cons_zero, List.set_cons_succ]
        refine wpAnyH_take (i := 6) (v := ?_) rfl (by kernel_rfl) (by kernel_rfl) (by kernel_rfl) (fun _ _ _ h => h) (Or.inl ⟨by rfl, ?_⟩) hS ?_
        rotate_left 1
        · intro w hSw; (try dsimp only at hSw); go_simp <;> with_reducible rfl
        simp only [List.getElem_toArray, List.getElem_cons_zero, List.getElem_cons_succ, Act.put, List.setIfInBounds_toArray, List.set_cons_zero, List.set_cons_succ]
        refine wpAnyH_take (i := 7) (v := ?_) rfl (by kernel_rfl) (by kernel_rfl) (by kernel_rfl) (fun _ _ _ h => h) (Or.inl ⟨by rfl, ?_⟩) hS ?_
        rotate_left 1
        · intro w hSw; (try dsimp only at hSw); go_simp <;> with_reducible rfl
        simp only [List.getElem_toArray, List.getElem_cons_zero, List.getElem_cons_succ, Act.put, List.setIfInBounds_toArray, List.set_cons_zero, List.set_cons_succ]
        refine wpAnyH_take (i := 8) (v := ?_) rfl (by kernel_rfl) (by kernel_rfl) (by kernel_rfl) (fun _ _ _ h => h) (Or.inl ⟨by rfl, ?_⟩) hS ?_
        rotate_left 1
        · intro w hSw; (try dsimp only at hSw); go_simp <;> with_reducible rfl
        simp only [List.getElem_toArray, List.getElem_cons_zero, List.getElem_cons_succ, Act.put, List.setIfInBounds_toArray, List.set_cons_zero, List.set_cons_succ]
        refine wpAnyH_take (i := 10) (v := ?_) rfl (by kernel_rfl) (by kernel_rfl) (by kernel_rfl) (fun _ _ _ h => h) (Or.inl ⟨by rfl, ?_⟩) hS ?_
        rotate_left 1
        · intro w hSw; (try dsimp only at hSw); go_simp <;> with_reducible rfl
        simp only [List.getElem_toArray, List.getElem_cons_zero, List.getElem_cons_succ, Act.put, List.setIfInBounds_toArray, List.set_cons_zero, List.set_cons_succ]
        refine wpAnyH_take (i := 11) (v := ?_) rfl (by kernel_rfl) (by kernel_rfl) (by kernel_rfl) (fun _ _ _ h => h) (Or.inl ⟨by rfl, ?_⟩) hS ?_
        rotate_left 1
        · intro w hSw; (try dsimp only at hSw); go_simp <;> with_reducible rfl
        simp only [List.getElem_toArray, List.getElem_cons_zero, List.getElem_cons_succ, Act.put, List.setIfInBounds_toArray, List.set_cons_zero, List.set_cons_succ]
        refine wpAnyH_take (i := 12) (v := ?_) rfl (by kernel_rfl) (by kernel_rfl) (by kernel_rfl) (fun _ _ _ h => h) (Or.inl ⟨by rfl, ?_⟩) hS ?_
        rotate_left 1
        · intro w hSw; (try dsimp only at hSw); go_simp <;> with_reducible rfl
        simp only [List.getElem_toArray, List.getElem_cons_zero, List.getElem_cons_succ, Act.put, List.setIfInBounds_toArray, List.set_cons_zero, List.set_cons_succ]
        refine wpAnyH_take (i := 13) (v := ?_) rfl (by kernel_rfl) (by kernel_rfl) (by kernel_rfl) (fun _ _ _ h => h) (Or.inl ⟨by rfl, ?_⟩) hS ?_
        rotate_left 1
        · intro w hSw; (try dsimp only at hSw); go_simp <;> with_reducible rfl
        simp only [List.getElem_toArray, List.getElem_cons_zero, List.getElem_cons_succ, Act.put, List.setIfInBounds_toArray, List.set_cons_zero, List.set_cons_succ]
        refine wpAnyH_take (i := 14) (v := ?_) rfl (by kernel_rfl) (by kernel_rfl) (by kernel_rfl) (fun _ _ _ h => h) (Or.inl ⟨by rfl, ?_⟩) hS ?_
        rotate_left 1
        · intro w hSw; (try dsimp only at hSw); go_simp <;> with_reducible rfl
        simp only [List.getElem_toArray, List.getElem_cons_zero, List.getElem_cons_succ, Act.put, List.setIfInBounds_toArray, List.set_cons_zero, List.set_cons_succ]
        refine wpAnyH_take (i := 15) (v := ?_) rfl (by kernel_rfl) (by kernel_rfl) (by kernel_rfl) (fun _ _ _ h => h) (Or.inl ⟨by rfl, ?_⟩) hS ?_
        rotate_left 1
        · intro w hSw; (try dsimp only at hSw); go_simp <;> with_reducible rfl
        simp only [List.getElem_toArray, List.getElem_cons_zero, List.getElem_cons_succ, Act.put, List.setIfInBounds_toArray, List.set_cons_zero, List.set_cons_succ]
        refine wpAnyH_take (i := 16) (v := ?_) rfl (by kernel_rfl) (by kernel_rfl) (by kernel_rfl) (fun _ _ _ h => h) (Or.inl ⟨by rfl, ?_⟩) hS ?_
        rotate_left 1
        · intro w hSw; (try dsimp only at hSw); go_simp <;> with_reducible rfl
        simp only [List.getElem_toArray, List.getElem_cons_zero, List.getElem_cons_succ, Act.put, List.setIfInBounds_toArray, List.set_cons_zero, List.set_cons_succ]
        refine wpAnyH_take (i := 17) (v := ?_) rfl (by kernel_rfl) (by kernel_rfl) (by kernel_rfl) (fun _ _ _ h => h) (Or.inl ⟨by rfl, ?_⟩) hS ?_
        rotate_left 1
        · intro w hSw; (try dsimp only at hSw); go_simp <;> with_reducible rfl
        simp only [List.getElem_toArray, List.getElem_cons_zero, List.getElem_cons_succ, Act.put, List.setIfInBounds_toArray, List.set_cons_zero, List.set_cons_succ]
        refine wpAnyH_take (i := 18) (v := ?_) rfl (by kernel_rfl) (by kernel_rfl) (by kernel_rfl) (fun _ _ _ h => h) (Or.inl ⟨by rfl, ?_⟩) hS ?_
        rotate_left 1
        · intro w hSw; (try dsimp only at hSw); go_simp <;> with_reducible rfl
        simp only [List.getElem_toArray, List.getElem_cons_zero, List.getElem_cons_succ, Act.put, List.setIfInBounds_toArray, List.set_cons_zero, List.set_cons_succ]
        refine wpAnyH_take (i := 21) (v := ?_) rfl (by kernel_rfl) (by kernel_rfl) (by kernel_rfl) (fun _ _ _ h => h) (Or.inl ⟨by rfl, ?_⟩) hS ?_
        rotate_left 1
        · intro w hSw; (try dsimp only at hSw); go_simp <;> with_reducible rfl
        simp only [List.getElem_toArray, List.getElem_cons_zero, List.getElem_cons_succ, Act.put, List.setIfInBounds_toArray, List.set_cons_zero, List.set_cons_succ]
        refine wpAnyH_ready (rs := [2]) (by kernel_rfl) (by simp) ?_
        refine AllReadyH.cons rfl (fun K hK => ?_) AllReadyH.nil
        go_simp
        refine Calls.mono (HG1'.out _) ?_
        rintro e w7 ⟨rfl, hb7⟩
        have HB7 : Hid (Below W.heap.size W w7) := (Below.drew HB6.out).trans (hb7.mono (Below.drew HB6.out).size)
        refine hK.out _ _ HB7.out (fun hS => ?_)
        clear hK K hb7
        try simp only [List.getElem_toArray, List.getElem_cons_zero, List.getElem_cons_succ, Act.put, List.setIfInBounds_toArray, List.set_cons_zero, List.set_cons_succ]
        refine wpAnyH_ready (rs := [9]) (by kernel_rfl) (by simp) ?_
        refine AllReadyH.cons rfl (fun K hK => ?_) AllReadyH.nil
        go_simp
        refine Calls.mono (HG2'.out _) ?_
        rintro e w8 ⟨rfl, hb8⟩
        have HB8 : Hid (Below W.heap.size W w8) := HB7.out.trans (hb8.mono HB7.out.size)
        refine hK.out _ _ HB8.out (fun hS => ?_)
        clear hK K hb8
        try simp only [List.getElem_toArray, List.getElem_cons_zero, List.getElem_cons_succ, Act.put, List.setIfInBounds_toArray, List.set_cons_zero, List.set_cons_succ]
        refine wpAnyH_ready (rs := [19]) (by kernel_rfl) (by simp) ?_
        refine AllReadyH.cons rfl (fun K hK => ?_) AllReadyH.nil
        go_simp
        have HB9 : Hid (Below W.heap.size W (w8.alloc (Obj.cells #[.string (strN g1), .string (strN g2), .string (strN V)] 9))) := HB8.out.alloc HB8.out.size _
        refine hK.out _ _ HB9.out (fun hS => ?_)
        clear hK K
        try simp only [List.getElem_toArray, List.getElem_cons_zero, List.getElem_cons_succ, Act.put, List.setIfInBounds_toArray, List.set_cons_zero, List.set_cons_succ]
        refine wpAnyH_take (i := 20) (v := ?_) rfl (by kernel_rfl) (by kernel_rfl) (by kernel_rfl) (fun _ _ _ h => h) (Or.inl ⟨by rfl, ?_⟩) hS ?_
        rotate_left 1
        · intro w hSw; (try dsimp only at hSw); go_simp <;> with_reducible rfl
        simp only [List.getElem_toArray, List.getElem_cons_zero, List.getElem_cons_succ, Act.put, List.setIfInBounds_toArray, List.set_cons_zero, List.set_cons_succ]
        refine wpAnyH_done (by kernel_rfl) ?_ _
        clear hS
        have HCe : Hid (∀ q v, [g1, g2, V][q]? = some v → (w8.alloc (Obj.cells #[.string (strN g1), .string (strN g2), .string (strN V)] 9)).cell? ⟨w8.heap.size, q, none⟩ = some (.string (strN v))) := by
          intro q v hq
          have hql : q < [g1, g2, V].length := (List.getElem?_eq_some_iff.1 hq).1
          have := txt_cell w8 [g1, g2, V] q hql
          rw [hq] at this
          exact this
        go_wp2
        generalize w8.alloc (Obj.cells #[.string (strN g1), .string (strN g2), .string (strN V)] 9) = w9 at *
        obtain ⟨g, hg⟩ : ∃ g, g = w8.heap.size := ⟨_, rfl⟩
        rw [← hg] at HCe ⊢
        clear hg hc1 hc2 hs1 hs2
        go_loopw [79] (fun i wr => ∃ q : Nat, q ≤ 3 ∧ i = .int .i64 (q : Int) ∧ Below w9.heap.size w9 wr) (fun i _ => 3 - (intOf i).toNat)
        case atStart => exact ⟨0, by omega, rfl, Below.refl _ _⟩
        case round =>
          obtain ⟨q, hq, rfl, hbw⟩ := hrel
          have HBw : Hid _ := hbw
          have HBW : Hid _ := HB9.out.trans (hbw.mono HB9.out.size)
          by_cases hq3 : q < 3
          · obtain ⟨v, hv⟩ : ∃ v, [g1, g2, V][q]? = some v := ⟨[g1, g2, V][q]'(by simpa using hq3), List.getElem?_eq_getElem _⟩
            have hcx := cell_later (HCe.out q v hv) hbw
            obtain ⟨hvb, hvl, hpv⟩ := HTb.out v (List.mem_of_getElem? hv)
            have HP1 : Hid (∀ w, MaxLen w → Calls Tryd.prog 15 #[.string (strN v)] w fun e w' => e = .returned (.tuple #[.string (strN A), .int .i64 0]) ∧ Below w.heap.size w w') := fun w ht => parse_at v A 0 w ht hvb (by omega) hpv
            have hne : ((strN A).toList != (strN A).toList) = false := by simp
            clear hv hbw hpv
            go_wp2_with fail
            refine Calls.mono (HP1.out _ (MaxLen.later HT.out HBW.out)) ?_
            rintro e w10 ⟨rfl, hb10⟩
            have HB10 : Hid _ := HBw.out.trans (hb10.mono HBw.out.size)
            clear hb10
            go_wp2
            go_roundw
            case rel => exact ⟨q + 1, by omega, by simp, HB10.out⟩
            case measure => simp [intOf]; omega
          · clear hbw
            go_wp2
            go_ret
            exact ⟨rfl, HBW.out⟩
      · have hs1 : ∀ w, (Instr.sliceAt 9 (.string (strN A)) none (some (.int .i64 (7 + (hl : Int) + 1))) none).run Tryd.prog w = .ok (.string (strN P)) w := by
          intro w; rw [show (7 + (hl : Int) + 1) = ((8 + hl : Nat) : Int) by omega]; exact HS1.out w
        have hs2 : ∀ w, (Instr.sliceAt 9 (.string (strN A)) (some (.int .i64 (7 + (hl : Int) + 1))) none none).run Tryd.prog w = .ok (.string (strN R)) w := by
          intro w; rw [show (7 + (hl : Int) + 1) = ((8 + hl : Nat) : Int) by omega]; exact HS2.out w
        have HG1' : Hid (∀ w, Calls Tryd.prog 22 #[.string (strN A), .int .i64 (7 + (hl : Int) + 1)] w fun e w' => e = .returned (.string (strN g1)) ∧ Below w.heap.size w w') := by
          intro w; rw [show (7 + (hl : Int) + 1) = ((8 + hl : Nat) : Int) by omega]; exact HG1.out w
        have HG2' : Hid (∀ w, Calls Tryd.prog 22 #[.string (strN A), .int .i64 (7 + (hl : Int) + 1 - (r5 : Int))] w fun e w' => e = .returned (.string (strN g2)) ∧ Below w.heap.size w w') := by
          intro w; rw [show (7 + (hl : Int) + 1 - (r5 : Int)) = ((8 + hl - r5 : Nat) : Int) by omega]; exact HG2.out w
        have hwj : IntKind.i64.wrap (j : Int) = (j : Int) := by rw [IntKind.wrap_i64]; omega
        have hwr : IntKind.i64.wrap (7 + (hl : Int) + 1 - (r5 : Int)) = 7 + (hl : Int) + 1 - (r5 : Int) := by rw [IntKind.wrap_i64]; omega
        clear HS1 HS2 HG1 HG2 HIdl
        go_wp2
        generalize w5.alloc (Obj.cells #[.string ⟨#[47, 46]⟩, .string ⟨#[47, 120, 47, 46, 46]⟩, .string ⟨#[47, 120, 47, 121, 47, 46, 46, 47, 46, 46]⟩, .string ⟨#[47, 46, 46]⟩, .string ⟨#[47, 46, 47, 46]⟩, .string ⟨#[47, 37, 50, 101]⟩, .string ⟨#[47, 113, 47, 37, 50, 69, 46]⟩] 9) = w6 at *
        clear hce
        refine wp_region_held_drew (S := fun w' => Below W.heap.size W w') rfl (Below.drew HB6.out) (fun hS => ?_)
        refine wpAnyH_take (i := 0) (v := ?_) rfl (by kernel_rfl) (by kernel_rfl) (by kernel_rfl) (fun _ _ _ h => h) (Or.inl ⟨by rfl, ?_⟩) hS ?_
        rotate_left 1
        · intro w hSw; (try dsimp only at hSw); go_simp <;> with_reducible rfl
        simp only [List.getElem_toArray, List.getElem_cons_zero, List.getElem_cons_succ, Act.put, List.setIfInBounds_toArray, List.set_cons_zero, List.set_cons_succ]
        refine wpAnyH_take (i := 1) (v := ?_) rfl (by kernel_rfl) (by kernel_rfl) (by kernel_rfl) (fun _ _ _ h => h) (Or.inl ⟨by rfl, ?_⟩) hS ?_
        rotate_left 1
        · intro w hSw; (try dsimp only at hSw); go_simp <;> with_reducible rfl
        simp only [List.getElem_toArray, List.getElem_cons_zero, List.getElem_cons_succ, Act.put, List.setIfInBounds_toArray, List.set_cons_zero, List.set_cons_succ]
        refine wpAnyH_take (i := 3) (v := ?_) rfl (by kernel_rfl) (by kernel_rfl) (by kernel_rfl) (fun _ _ _ h => h) (Or.inl ⟨by rfl, ?_⟩) hS ?_
        rotate_left 1
        · intro w hSw; (try dsimp only at hSw); go_simp <;> with_reducible rfl
        simp only [List.getElem_toArray, List.getElem_cons_zero, List.getElem_cons_succ, Act.put, List.setIfInBounds_toArray, List.set_cons_zero, List.set_cons_succ]
        refine wpAnyH_take (i := 4) (v := ?_) rfl (by kernel_rfl) (by kernel_rfl) (by kernel_rfl) (fun _ _ _ h => h) (Or.inl ⟨by rfl, ?_⟩) hS ?_
        rotate_left 1
        · intro w hSw; (try dsimp only at hSw); go_simp <;> with_reducible rfl
        simp only [List.getElem_toArray, List.getElem_cons_zero, List.getElem_cons_succ, Act.put, List.setIfInBounds_toArray, List.set_cons_zero, List.set_cons_succ]
        refine wpAnyH_take (i := 5) (v := ?_) rfl (by kernel_rfl) (by kernel_rfl) (by kernel_rfl) (fun _ _ _ h => h) (Or.inl ⟨by rfl, ?_⟩) hS ?_
        rotate_left 1
        · intro w hSw; (try dsimp only at hSw); go_simp <;> with_reducible rfl
        simp only [List.getElem_toArray, List.getElem_cons_zero, List.getElem_cons_succ, Act.put, List.setIfInBounds_toArray, List.set_cons_zero, List.set_cons_succ]
        refine wpAnyH_take (i := 6) (v := ?_) rfl (by kernel_rfl) (by kernel_rfl) (by kernel_rfl) (fun _ _ _ h => h) (Or.inl ⟨by rfl, ?_⟩) hS ?_
        rotate_left 1
        · intro w hSw; (try dsimp only at hSw); go_simp <;> with_reducible rfl
        simp only [List.getElem_toArray, List.getElem_cons_zero, List.getElem_cons_succ, Act.put, List.setIfInBounds_toArray, List.set_cons_zero, List.set_cons_succ]
        refine wpAnyH_take (i := 7) (v := ?_) rfl (by kernel_rfl) (by kernel_rfl) (by kernel_rfl) (fun _ _ _ h => h) (Or.inl ⟨by rfl, ?_⟩) hS ?_
        rotate_left 1
        · intro w hSw; (try dsimp only at hSw); go_simp <;> with_reducible rfl
        simp only [List.getElem_toArray, List.getElem_cons_zero, List.getElem_cons_succ, Act.put, List.setIfInBounds_toArray, List.set_cons_zero, List.set_cons_succ]
        refine wpAnyH_take (i := 8) (v := ?_) rfl (by kernel_rfl) (by kernel_rfl) (by kernel_rfl) (fun _ _ _ h => h) (Or.inl ⟨by rfl, ?_⟩) hS ?_
        rotate_left 1
        · intro w hSw; (try dsimp only at hSw); go_simp <;> with_reducible rfl
        simp only [List.getElem_toArray, List.getElem_cons_zero, List.getElem_cons_succ, Act.put, List.setIfInBounds_toArray, List.set_cons_zero, List.set_cons_succ]
        refine wpAnyH_take (i := 10) (v := ?_) rfl (by kernel_rfl) (by kernel_rfl) (by kernel_rfl) (fun _ _ _ h => h) (Or.inl ⟨by rfl, ?_⟩) hS ?_
        rotate_left 1
        · intro w hSw; (try dsimp only at hSw); go_simp <;> with_reducible rfl
        simp only [List.getElem_toArray, List.getElem_cons_zero, List.getElem_cons_succ, Act.put, List.setIfInBounds_toArray, List.set_cons_zero, List.set_cons_succ]
        refine wpAnyH_take (i := 11) (v := ?_) rfl (by kernel_rfl) (by kernel_rfl) (by kernel_rfl) (fun _ _ _ h => h) (Or.inl ⟨by rfl, ?_⟩) hS ?_
        rotate_left 1
        · intro w hSw; (try dsimp only at hSw); go_simp <;> with_reducible rfl
        simp only [List.getElem_toArray, List.getElem_cons_zero, List.getElem_cons_succ, Act.put, List.setIfInBounds_toArray, List.set_cons_zero, List.set_cons_succ]
        refine wpAnyH_take (i := 12) (v := ?_) rfl (by kernel_rfl) (by kernel_rfl) (by kernel_rfl) (fun _ _ _ h => h) (Or.inl ⟨by rfl, ?_⟩) hS ?_
        rotate_left 1
        · intro w hSw; (try dsimp only at hSw); go_simp <;> with_reducible rfl
        simp only [List.getElem_toArray, List.getElem_cons_zero, List.getElem_cons_succ, Act.put, List.setIfInBounds_toArray, List.set_cons_zero, List.set_cons_succ]
        refine wpAnyH_take (i := 13) (v := ?_) rfl (by kernel_rfl) (by kernel_rfl) (by kernel_rfl) (fun _ _ _ h => h) (Or.inl ⟨by rfl, ?_⟩) hS ?_
        rotate_left 1
        · intro w hSw; (try dsimp only at hSw); go_simp <;> with_reducible rfl
        simp only [List.getElem_toArray, List.getElem_cons_zero, List.getElem_cons_succ, Act.put, List.setIfInBounds_toArray, List.set_cons_zero, List.set_cons_succ]
        refine wpAnyH_take (i := 14) (v := ?_) rfl (by kernel_rfl) (by kernel_rfl) (by kernel_rfl) (fun _ _ _ h => h) (Or.inl ⟨by rfl, ?_⟩) hS ?_
        rotate_left 1
        · intro w hSw; (try dsimp only at hSw); go_simp <;> with_reducible rfl
        simp only [List.getElem_toArray, List.getElem_cons_zero, List.getElem_cons_succ, Act.put, List.setIfInBounds_toArray, List.set_cons_zero, List.set_cons_succ]
        refine wpAnyH_take (i := 15) (v := ?_) rfl (by kernel_rfl) (by kernel_rfl) (by kernel_rfl) (fun _ _ _ h => h) (Or.inl ⟨by rfl, ?_⟩) hS ?_
        rotate_left 1
        · intro w hSw; (try dsimp only at hSw); go_simp <;> with_reducible rfl
        simp only [List.getElem_toArray, List.getElem_cons_zero, List.getElem_cons_succ, Act.put, List.setIfInBounds_toArray, List.set_cons_zero, List.set_cons_succ]
        refine wpAnyH_take (i := 16) (v := ?_) rfl (by kernel_rfl) (by kernel_rfl) (by kernel_rfl) (fun _ _ _ h => h) (Or.inl ⟨by rfl, ?_⟩) hS ?_
        rotate_left 1
        · intro w hSw; (try dsimp only at hSw); go_simp <;> with_reducible rfl
        simp only [List.getElem_toArray, List.getElem_cons_zero, List.getElem_cons_succ, Act.put, List.setIfInBounds_toArray, List.set_cons_zero, List.set_cons_succ]
        refine wpAnyH_take (i := 17) (v := ?_) rfl (by kernel_rfl) (by kernel_rfl) (by kernel_rfl) (fun _ _ _ h => h) (Or.inl ⟨by rfl, ?_⟩) hS ?_
        rotate_left 1
        · intro w hSw; (try dsimp only at hSw); go_simp <;> with_reducible rfl
        simp only [List.getElem_toArray, List.getElem_cons_zero, List.getElem_cons_succ, Act.put, List.setIfInBounds_toArray, List.set_cons_zero, List.set_cons_succ]
        refine wpAnyH_take (i := 18) (v := ?_) rfl (by kernel_rfl) (by kernel_rfl) (by kernel_rfl) (fun _ _ _ h => h) (Or.inl ⟨by rfl, ?_⟩) hS ?_
        rotate_left 1
        · intro w hSw; (try dsimp only at hSw); go_simp <;> with_reducible rfl
        simp only [List.getElem_toArray, List.getElem_cons_zero, List.getElem_cons_succ, Act.put, List.setIfInBounds_toArray, List.set_cons_zero, List.set_cons_succ]
        refine wpAnyH_take (i := 21) (v := ?_) rfl (by kernel_rfl) (by kernel_rfl) (by kernel_rfl) (fun _ _ _ h => h) (Or.inl ⟨by rfl, ?_⟩) hS ?_
        rotate_left 1
        · intro w hSw; (try dsimp only at hSw); go_simp <;> with_reducible rfl
        simp only [List.getElem_toArray, List.getElem_cons_zero, List.getElem_cons_succ, Act.put, List.setIfInBounds_toArray, List.set_cons_zero, List.set_cons_succ]
        refine wpAnyH_ready (rs := [2]) (by kernel_rfl) (by simp) ?_
        refine AllReadyH.cons rfl (fun K hK => ?_) AllReadyH.nil
        go_simp
        refine Calls.mono (HG1'.out _) ?_
        rintro e w7 ⟨rfl, hb7⟩
        have HB7 : Hid (Below W.heap.size W w7) := (Below.drew HB6.out).trans (hb7.mono (Below.drew HB6.out).size)
        refine hK.out _ _ HB7.out (fun hS => ?_)
        clear hK K hb7
        try simp only [List.getElem_toArray, List.getElem_cons_zero, List.getElem_cons_succ, Act.put, List.setIfInBounds_toArray, List.set_cons_zero, List.set_cons_succ]
        refine wpAnyH_ready (rs := [9]) (by kernel_rfl) (by simp) ?_
        refine AllReadyH.cons rfl (fun K hK => ?_) AllReadyH.nil
        go_simp
        refine Calls.mono (HG2'.out _) ?_
        rintro e w8 ⟨rfl, hb8⟩
        have HB8 : Hid (Below W.heap.size W w8) := HB7.out.trans (hb8.mono HB7.out.size)
        refine hK.out _ _ HB8.out (fun hS => ?_)
        clear hK K hb8
        try simp only [List.getElem_toArray, List.getElem_cons_zero, List.getElem_cons_succ, Act.put, List.setIfInBounds_toArray, List.set_cons_zero, List.set_cons_succ]
        refine wpAnyH_ready (rs := [19]) (by kernel_rfl) (by simp) ?_
        refine AllReadyH.cons rfl (fun K hK => ?_) AllReadyH.nil
        go_simp
        have HB9 : Hid (Below W.heap.size W (w8.alloc (Obj.cells #[.string (strN g1), .string (strN g2), .string (strN V)] 9))) := HB8.out.alloc HB8.out.size _
        refine hK.out _ _ HB9.out (fun hS => ?_)
        clear hK K
        try simp only [List.getElem_toArray, List.getElem_cons_zero, List.getElem_cons_succ, Act.put, List.setIfInBounds_toArray, List.set_cons_zero, List.set_cons_succ]
        refine wpAnyH_take (i := 20) (v := ?_) rfl (by kernel_rfl) (by kernel_rfl) (by kernel_rfl) (fun _ _ _ h => h) (Or.inl ⟨by rfl, ?_⟩) hS ?_
        rotate_left 1
        · intro w hSw; (try dsimp only at hSw); go_simp <;> with_reducible rfl
        simp only [List.getElem_toArray, List.getElem_cons_zero, List.getElem_cons_succ, Act.put, List.setIfInBounds_toArray, List.set_cons_zero, List.set_cons_succ]
        refine wpAnyH_done (by kernel_rfl) ?_ _
        clear hS
        have HCe : Hid (∀ q v, [g1, g2, V][q]? = some v → (w8.alloc (Obj.cells #[.string (strN g1), .string (strN g2), .string (strN V)] 9)).cell? ⟨w8.heap.size, q, none⟩ = some (.string (strN v))) := by
          intro q v hq
          have hql : q < [g1, g2, V].length := (List.getElem?_eq_some_iff.1 hq).1
          have := txt_cell w8 [g1, g2, V] q hql
          rw [hq] at this
          exact this
        go_wp2
        generalize w8.alloc (Obj.cells #[.string (strN g1), .string (strN g2), .string (strN V)] 9) = w9 at *
        obtain ⟨g, hg⟩ : ∃ g, g = w8.heap.size := ⟨_, rfl⟩
        rw [← hg] at HCe ⊢
        clear hg hc1 hc2 hs1 hs2
        go_loopw [79] (fun i wr => ∃ q : Nat, q ≤ 3 ∧ i = .int .i64 (q : Int) ∧ Below w9.heap.size w9 wr) (fun i _ => 3 - (intOf i).toNat)
        case atStart => exact ⟨0, by omega, rfl, Below.refl _ _⟩
        case round =>
          obtain ⟨q, hq, rfl, hbw⟩ := hrel
          have HBw : Hid _ := hbw
          have HBW : Hid _ := HB9.out.trans (hbw.mono HB9.out.size)
          by_cases hq3 : q < 3
          · obtain ⟨v, hv⟩ : ∃ v, [g1, g2, V][q]? = some v := ⟨[g1, g2, V][q]'(by simpa using hq3), List.getElem?_eq_getElem _⟩
            have hcx := cell_later (HCe.out q v hv) hbw
            obtain ⟨hvb, hvl, hpv⟩ := HTb.out v (List.mem_of_getElem? hv)
            have HP1 : Hid (∀ w, MaxLen w → Calls Tryd.prog 15 #[.string (strN v)] w fun e w' => e = .returned (.tuple #[.string (strN A), .int .i64 0]) ∧ Below w.heap.size w w') := fun w ht => parse_at v A 0 w ht hvb (by omega) hpv
            have hne : ((strN A).toList != (strN A).toList) = false := by simp
            clear hv hbw hpv
            go_wp2_with fail
            refine Calls.mono (HP1.out _ (MaxLen.later HT.out HBW.out)) ?_
            rintro e w10 ⟨rfl, hb10⟩
            have HB10 : Hid _ := HBw.out.trans (hb10.mono HBw.out.size)
            clear hb10
            go_wp2
            go_roundw
            case rel => exact ⟨q + 1, by omega, by simp, HB10.out⟩
            case measure => simp [intOf]; omega
          · clear hbw
            go_wp2
            go_ret
            exact ⟨rfl, HBW.out⟩
  · have hgt : 300 < s.length := by omega
    clear hbig
    go_enter Tryd.func7, Tryd.ntmps7
    go_wp2_with fail
    refine Calls.mono HK.out ?_
    rintro e w1 ⟨rfl, hb1⟩
    have HB1 : Hid _ := hb1
    clear hb1
    go_wp2
    go_ret
    exact ⟨rfl, HB1.out⟩
end Go.Proofs.YtmdpakkldapciaaDoor

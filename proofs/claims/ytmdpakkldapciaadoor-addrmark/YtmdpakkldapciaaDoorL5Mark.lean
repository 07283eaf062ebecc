/-
  Walk of newsreellaw5.AddrMark.
-/
import Derived.Test.YtmdpakkldapciaaDoorL5Wild
namespace Go.Proofs.YtmdpakkldapciaaDoor
open Go.RowKit NumMath
open AddrMath (parse right hostOf pre post is parseP)
set_option maxRecDepth 100000
set_option linter.unusedVariables false
set_option linter.unusedSimpArgs false

theorem pre_more (p : Nat → Bool) (c : Nat) (hc : p c = true) (t : List Nat) : ∀ a : List Nat, pre p (a ++ c :: t) = pre p a
  | [] => by simp [pre, hc]
  | x :: a => by
    show pre p (x :: (a ++ c :: t)) = pre p (x :: a)
    rw [AddrMath.pre_cons, AddrMath.pre_cons, pre_more p c hc t a]
/-- A mark and what stands behind it say nothing. -/
theorem parse_mark (v t : List Nat) : parse (v ++ 35 :: t) = parse v := by
  rw [← AddrMath.parseP_is, ← AddrMath.parseP_is]
  unfold parseP
  rw [pre_more (is 35) 35 (by rfl) t v]

set_option maxRecDepth 100000 in
set_option maxHeartbeats 8000000 in
theorem addrMark_walk (s0 s1 : ByteArray) (n2 n3 : Int) (W : World) (ht : MaxLen W) (hs0 : s0.size ≤ 140737488355328) (hs1 : s1.size ≤ 140737488355328) (w2 : (Lit.int .u8 n2).wf = true) (w3 : (Lit.int .u8 n3).wf = true) :
    Calls Tryd.prog 6 #[.string s0, .string s1, .int .u8 n2, .int .u8 n3] W fun e W' => e = .returned (.bool true) ∧ Below W.heap.size W W' := by
  obtain ⟨s, hsb, rfl⟩ := any_str s0
  obtain ⟨t, htb, rfl⟩ := any_str s1
  have hb2 := bounds_u8 w2
  have hb3 := bounds_u8 w3
  obtain ⟨k, rfl⟩ : ∃ n : Nat, n2 = (n : Int) := ⟨n2.toNat, by omega⟩
  obtain ⟨j, rfl⟩ : ∃ n : Nat, n3 = (n : Int) := ⟨n3.toNat, by omega⟩
  have hk : k < 256 := by omega
  have hj : j < 256 := by omega
  have HT : Hid _ := ht
  have HK : Hid _ := known_any W ht
  have hsz := strN_size s
  have htz := strN_size t
  clear w2 w3 ht hb2 hb3 hs0 hs1
  by_cases hbig : s.length ≤ 500 ∧ t.length ≤ 500
  · obtain ⟨hs5, ht5⟩ := hbig
    have HWi : Hid (∀ w, _) := fun w => wild_any k j w hk hj
    have HAd : Hid (∀ w, _) := fun w => seatAddr_any k w hk
    obtain ⟨hab, hal, _⟩ := addrs_lt _ (seatA5_mem k)
    generalize seatA5 k = A at *
    obtain ⟨As, hAs⟩ : ∃ x, x = A ++ s := ⟨_, rfl⟩
    have hcat : ∀ w, (Op.stringOp BinOp.add (strN A) (strN s)).run Tryd.prog w = .ok (.string (strN As)) w := by rw [hAs]; exact sum_strN A s (by omega)
    have hAsb : ∀ c ∈ As, c < 256 := by rw [hAs]; exact app_lt hab hsb
    have hAsl : As.length ≤ 600 := by rw [hAs]; simp; omega
    clear hAs
    go_enter Tryd.func6, Tryd.ntmps6
    go_wp2_with fail
    refine Calls.mono HK.out ?_
    rintro e w1 ⟨rfl, hb1⟩
    have HB1 : Hid _ := hb1
    clear hb1
    go_wp2_with fail
    refine Calls.mono (HWi.out _) ?_
    rintro e w2 ⟨⟨l, rfl, hlb, hll⟩, hb2⟩
    have HB2 : Hid _ := HB1.out.trans (hb2.mono HB1.out.size)
    clear hb2
    go_wp2_with fail
    refine Calls.mono (HAd.out _) ?_
    rintro e w3 ⟨rfl, hb3⟩
    have HB3 : Hid _ := HB2.out.trans (hb3.mono HB2.out.size)
    have hs3 := HB3.out.size
    clear hb3
    obtain ⟨T, hT⟩ : ∃ T : List (List Nat), T = [s, l, As] := ⟨_, rfl⟩
    have HTb : Hid (∀ v ∈ T, (∀ c ∈ v, c < 256) ∧ v.length ≤ 600) := by
      intro v hv
      rw [hT] at hv
      simp at hv
      rcases hv with rfl | rfl | rfl
      · exact ⟨hsb, by omega⟩
      · exact ⟨hlb, by omega⟩
      · exact ⟨hAsb, hAsl⟩
    have HTl : Hid (T.length = 3) := by rw [hT]; exact rfl
    have HCe : Hid (∀ q v, T[q]? = some v → (w3.alloc (Obj.cells #[.string (strN s), .string (strN l), .string (strN As)] 9)).cell? ⟨w3.heap.size, q, none⟩ = some (.string (strN v))) := by
      intro q v hq
      have hql : q < T.length := (List.getElem?_eq_some_iff.1 hq).1
      have := txt_cell w3 T q hql
      rw [hq] at this
      rw [hT] at this
      exact this
    have HB4 : Hid (Below W.heap.size W (w3.alloc (Obj.cells #[.string (strN s), .string (strN l), .string (strN As)] 9))) := HB3.out.alloc hs3 _
    clear hT
    go_wp2
    generalize w3.alloc (Obj.cells #[.string (strN s), .string (strN l), .string (strN As)] 9) = w4 at *
    obtain ⟨g, hg⟩ : ∃ g, g = w3.heap.size := ⟨_, rfl⟩
    rw [← hg] at HCe ⊢
    clear hg hcat
    go_loopw [35] (fun i wr => ∃ q : Nat, q ≤ 3 ∧ i = .int .i64 (q : Int) ∧ Below w4.heap.size w4 wr) (fun i _ => 3 - (intOf i).toNat)
    case atStart => exact ⟨0, by omega, rfl, Below.refl _ _⟩
    case round =>
      obtain ⟨q, hq, rfl, hbw⟩ := hrel
      have HBw : Hid _ := hbw
      have HBW : Hid _ := HB4.out.trans (hbw.mono HB4.out.size)
      by_cases hq3 : q < 3
      · obtain ⟨v, hv⟩ : ∃ v, T[q]? = some v := ⟨T[q]'(by rw [HTl.out]; exact hq3), List.getElem?_eq_getElem _⟩
        have hcx := cell_later (HCe.out q v hv) hbw
        obtain ⟨hvb, hvl⟩ := HTb.out v (List.mem_of_getElem? hv)
        rcases hpv : parse v with ⟨f, e⟩
        have HP1 : Hid (∀ w, MaxLen w → _) := fun w ht => parse_at v f e w ht hvb (by omega) hpv
        obtain ⟨v1, hv1⟩ : ∃ x, x = v ++ [35] := ⟨_, rfl⟩
        obtain ⟨v2, hv2⟩ : ∃ x, x = v1 ++ t := ⟨_, rfl⟩
        have hc1 : ∀ w, (Op.stringOp BinOp.add (strN v) ⟨#[35]⟩).run Tryd.prog w = .ok (.string (strN v1)) w := by rw [hv1]; exact sum_strN v [35] (by simp; omega)
        have hc2 : ∀ w, (Op.stringOp BinOp.add (strN v1) (strN t)).run Tryd.prog w = .ok (.string (strN v2)) w := by rw [hv2]; exact sum_strN v1 t (by rw [hv1]; simp; omega)
        have HP2 : Hid (∀ w, MaxLen w → _) := fun w ht => parse_at v2 f e w ht (by rw [hv2, hv1]; exact app_lt (app_lt hvb (by simp)) htb) (by rw [hv2, hv1]; simp; omega) (by rw [hv2, hv1, List.append_assoc]; show parse (v ++ 35 :: t) = _; rw [parse_mark, hpv])
        have hne : ((strN f).toList != (strN f).toList) = false := by simp
        have hne2 : ((e : Int) != (e : Int)) = false := by simp
        clear hv hbw hpv hv1 hv2
        go_wp2_with fail
        refine Calls.mono (HP1.out _ (MaxLen.later HT.out HBW.out)) ?_
        rintro e w5 ⟨rfl, hb5⟩
        have HB5 : Hid _ := HBw.out.trans (hb5.mono HBw.out.size)
        have HB5W : Hid _ := HBW.out.trans (hb5.mono HBW.out.size)
        clear hb5
        go_wp2_with fail
        refine Calls.mono (HP2.out _ (MaxLen.later HT.out HB5W.out)) ?_
        rintro e w6 ⟨rfl, hb6⟩
        have HB6 : Hid _ := HB5.out.trans (hb6.mono HB5.out.size)
        clear hb6
        go_wp2
        go_roundw
        case rel => exact ⟨q + 1, by omega, by simp, HB6.out⟩
        case measure => simp [intOf]; omega
      · clear hbw
        go_wp2
        go_ret
        exact ⟨rfl, HBW.out⟩
  · go_enter Tryd.func6, Tryd.ntmps6
    go_wp2_with fail
    refine Calls.mono HK.out ?_
    rintro e w1 ⟨rfl, hb1⟩
    have HB1 : Hid _ := hb1
    clear hb1
    by_cases h1 : 500 < s.length
    · clear hbig
      go_wp2
      go_ret
      exact ⟨rfl, HB1.out⟩
    · have h2 : 500 < t.length := by omega
      clear hbig
      go_wp2
      go_ret
      exact ⟨rfl, HB1.out⟩
end Go.Proofs.YtmdpakkldapciaaDoor

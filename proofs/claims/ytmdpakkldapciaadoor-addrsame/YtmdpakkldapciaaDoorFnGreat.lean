/-
  Walk of newsreellaw5.great; what great letters and idle segments are to a form.
-/
import Derived.Test.YtmdpakkldapciaaDoorFnAddrJ
namespace Go.Proofs.YtmdpakkldapciaaDoor
open Go.RowKit NumMath
open AddrMath (parse right hostOf is No colon lower small way dots dotsGo splitD Norm Idle hexAt meant plain extra isPort digit)
set_option maxRecDepth 100000
set_option linter.unusedVariables false
set_option linter.unusedSimpArgs false

/-- A small letter as a great one. -/
def up (c : Nat) : Nat := if 97 ≤ c ∧ c ≤ 122 then c - 32 else c
def greatL (n : Nat) (l : List Nat) : List Nat := (l.take n).map up ++ l.drop n
theorem up_lt {c : Nat} (h : c < 256) : up c < 256 := by unfold up; split <;> omega
theorem greatL_lt {n : Nat} {l : List Nat} (h : ∀ c ∈ l, c < 256) : ∀ c ∈ greatL n l, c < 256 := by
  intro c hc
  rcases List.mem_append.1 hc with h1 | h1
  · obtain ⟨x, hx, rfl⟩ := List.mem_map.1 h1
    exact up_lt (h x (List.mem_of_mem_take hx))
  · exact h c (List.mem_of_mem_drop h1)
theorem greatL_len (n : Nat) (l : List Nat) : (greatL n l).length = l.length := by simp [greatL]; omega
theorem small_up (c : Nat) : small (up c) = small c := by
  unfold small up
  split
  · rw [if_pos (by omega), if_neg (by omega)]; omega
  · rfl
theorem lower_great (n : Nat) (l : List Nat) : lower (greatL n l) = lower l := by
  unfold lower greatL
  rw [List.map_append, List.map_map]
  have : (small ∘ up) = small := funext small_up
  rw [this, ← List.map_append, List.take_append_drop]
theorem greatL_app (n : Nat) (a b : List Nat) : greatL n (a ++ b) = greatL n a ++ greatL (n - a.length) b := by
  unfold greatL
  rw [List.take_append, List.drop_append, List.map_append]
  by_cases h : n ≤ a.length
  · have : n - a.length = 0 := by omega
    rw [this]; simp
  · rw [List.drop_eq_nil_of_le (by omega : a.length ≤ n)]; simp
theorem greatL_keep {n : Nat} {l : List Nat} (h : ∀ c ∈ l, up c = c) : greatL n l = l := by
  unfold greatL
  have : (l.take n).map up = l.take n := by
    conv => rhs; rw [← List.map_id (l.take n)]
    apply List.map_congr_left
    intro x hx
    exact h x (List.mem_of_mem_take hx)
  rw [this, List.take_append_drop]
theorem greatL_zero (l : List Nat) : greatL 0 l = l := by simp [greatL]
/-- Great letters in scheme and host change nothing. -/
theorem parse_great {f sch h po : List Nat} {st : List (List Nat)} {qu : List Nat} (F : AddrMath.Form f sch h po st qu) (m : Nat) (hm : m ≤ (sch ++ (colon ++ (h ++ po))).length) : parse (greatL m f) = (f, 0) := by
  have hpo : ∀ c ∈ po, up c = c := by
    intro c hc
    rcases F.port with e | ⟨p, e, hp, _⟩
    · rw [e] at hc; cases hc
    · rw [e] at hc
      rcases List.mem_cons.1 hc with h | h
      · rw [h]; rfl
      · have := AddrMath.port_chars hp c h
        simp [digit] at this
        unfold up; rw [if_neg (by omega)]
  have key := AddrMath.parse_again F (u := greatL m sch) (h0 := greatL (m - sch.length - colon.length) h) (e := []) (by rw [lower_great]; exact F.sch0.lower) (by rw [lower_great]; exact AddrMath.host_lower F.host) (.inl rfl)
  have e : greatL m f = greatL m sch ++ (colon ++ (greatL (m - sch.length - colon.length) h ++ (po ++ (([] ++ AddrMath.join st) ++ qu)))) := by
    conv => lhs; rw [F.is]
    rw [greatL_app, greatL_app, greatL_app, greatL_app]
    rw [greatL_keep (l := colon) (by decide), greatL_keep (l := po) hpo]
    have z : m - sch.length - colon.length - h.length - po.length = 0 := by
      simp only [List.length_append] at hm
      omega
    rw [z, greatL_zero]
    simp
  rw [e]; exact key
theorem way1 {b : Nat} {t d : List Nat} (hb : b ≠ 37 ∧ b < 128 ∧ (plain b || extra true b) = true) (h : way true t = some d) : way true (b :: t) = some (b :: d) := by
  rw [AddrMath.way_low t hb.1 hb.2.1, if_pos hb.2.2, h]; rfl
theorem way3 {x y v c : Nat} {t d : List Nat} (hv : hexAt [x, y] = some v ∧ meant v = [c]) (h : way true t = some d) : way true (37 :: x :: y :: t) = some (c :: d) := by
  rw [AddrMath.way_pct]
  have : hexAt (x :: y :: t) = some v := by rw [← hv.1]; rfl
  rw [this]
  simp only [List.drop_succ_cons, List.drop_zero]
  rw [h, hv.2]; rfl
theorem idle_of {e' d : List Nat} (h63 : No (is 63) e') (h35 : No (is 35) e') (hw : ∀ t, way true t = some t → way true (e' ++ t) = some (d ++ t)) (hd : ∀ x xs, dotsGo [] (splitD 47 d ++ (x :: xs)) = dotsGo [] (x :: xs)) : Idle (47 :: e') := by
  refine .inr ⟨e', rfl, h63, h35, ?_⟩
  intro t f hf ht
  refine ⟨d, hw t ?_, ?_⟩
  · rw [ht]
    exact way1 (by decide) (AddrMath.way_norm (AddrMath.norm_true hf))
  · intro r
    rw [AddrMath.splitD_app]
    rcases hr : splitD 47 r with _ | ⟨x, xs⟩
    · exact absurd hr (AddrMath.splitD_ne 47 r)
    · exact hd x xs
def idles : List (List Nat) := [[47, 46], [47, 120, 47, 46, 46], [47, 120, 47, 121, 47, 46, 46, 47, 46, 46], [47, 46, 46], [47, 46, 47, 46], [47, 37, 50, 101], [47, 113, 47, 37, 50, 69, 46]]
theorem no_of {c : Nat} {l : List Nat} (h : l.all (fun x => !(is c x)) = true) : No (is c) l := by
  intro x hx
  have := List.all_eq_true.1 h x hx
  simpa using this
theorem idles_idle : ∀ q ∈ idles, Idle q := by
  intro q hq
  simp only [idles, List.mem_cons, List.not_mem_nil, or_false] at hq
  rcases hq with rfl | rfl | rfl | rfl | rfl | rfl | rfl
  · exact idle_of (e' := [46]) (d := [46]) (no_of (by decide)) (no_of (by decide)) (fun t h => way1 (by decide) h) (fun x xs => rfl)
  · exact idle_of (e' := [120, 47, 46, 46]) (d := [120, 47, 46, 46]) (no_of (by decide)) (no_of (by decide)) (fun t h => way1 (by decide) (way1 (by decide) (way1 (by decide) (way1 (by decide) h)))) (fun x xs => rfl)
  · exact idle_of (e' := [120, 47, 121, 47, 46, 46, 47, 46, 46]) (d := [120, 47, 121, 47, 46, 46, 47, 46, 46]) (no_of (by decide)) (no_of (by decide)) (fun t h => way1 (by decide) (way1 (by decide) (way1 (by decide) (way1 (by decide) (way1 (by decide) (way1 (by decide) (way1 (by decide) (way1 (by decide) (way1 (by decide) h))))))))) (fun x xs => rfl)
  · exact idle_of (e' := [46, 46]) (d := [46, 46]) (no_of (by decide)) (no_of (by decide)) (fun t h => way1 (by decide) (way1 (by decide) h)) (fun x xs => rfl)
  · exact idle_of (e' := [46, 47, 46]) (d := [46, 47, 46]) (no_of (by decide)) (no_of (by decide)) (fun t h => way1 (by decide) (way1 (by decide) (way1 (by decide) h))) (fun x xs => rfl)
  · exact idle_of (e' := [37, 50, 101]) (d := [46]) (no_of (by decide)) (no_of (by decide)) (fun t h => way3 (v := 46) (by decide) h) (fun x xs => rfl)
  · exact idle_of (e' := [113, 47, 37, 50, 69, 46]) (d := [113, 47, 46, 46]) (no_of (by decide)) (no_of (by decide)) (fun t h => way1 (by decide) (way1 (by decide) (way3 (v := 46) (by decide) (way1 (by decide) h)))) (fun x xs => rfl)

set_option maxRecDepth 100000 in
set_option maxHeartbeats 4000000 in
theorem great_any (l : List Nat) (m : Nat) (w : World) (hb : ∀ c ∈ l, c < 256) (hm : l.length ≤ 1000000000) (hml : m ≤ l.length) :
    Calls Tryd.prog 22 #[.string (strN l), .int .i64 (m : Int)] w fun e w' => e = .returned (.string (strN (greatL m l))) ∧ Below w.heap.size w w' := by
  have hconv := conv_bytes w l
  have HBf : Hid (Buf (Lib.bytesWorld w 5 (strN l)) w.heap.size l) := Buf.new w l hb
  have HB0 : Hid (Below w.heap.size w (Lib.bytesWorld w 5 (strN l))) := bytes_below w l
  obtain ⟨n, hn⟩ : ∃ n, n = l.length := ⟨_, rfl⟩
  have HN : Hid _ := hn
  rw [← hn] at hconv hm hml
  generalize grownCap w n 0 5 = cap at *
  clear hn
  go_enter Tryd.func22, Tryd.ntmps22
  go_wp2
  generalize Lib.bytesWorld w 5 (strN l) = w1 at *
  obtain ⟨g, hg⟩ : ∃ g, g = w.heap.size := ⟨_, rfl⟩
  rw [← hg] at HBf ⊢
  have hgw : w.heap.size ≤ g := by omega
  clear hg hconv
  go_loopw [6] (fun i wr => ∃ k : Nat, k ≤ m ∧ i = .int .i64 (k : Int) ∧ Buf wr g ((l.take k).map up ++ l.drop k) ∧ Below w.heap.size w wr) (fun i _ => m - (intOf i).toNat)
  case atStart => exact ⟨0, by omega, rfl, by simpa using HBf.out, HB0.out⟩
  case round =>
    clear HBf HB0
    obtain ⟨k, hk, rfl, hbuf, hbw⟩ := hrel
    have HF : Hid _ := hbuf
    have HB : Hid _ := hbw
    clear hbuf hbw
    by_cases hlt : k < m
    · have hkn : k < n := by omega
      obtain ⟨c, hc⟩ : ∃ c, l[k]? = some c := ⟨l[k]'(by rw [← HN.out]; exact hkn), List.getElem?_eq_getElem _⟩
      have HC : Hid _ := hc
      have hc256 := hb c (List.mem_of_getElem? hc)
      have hcell := HF.out.1 k c (take_at l up k c hc)
      have hfz := HF.out.2 k (by rw [take_len, ← HN.out]; exact hkn)
      clear hc
      by_cases hcr : 97 ≤ c ∧ c ≤ 122
      · have HBx : Hid (Buf (wr.setCell ⟨g, k, none⟩ (.int .u8 ((c : Int) - 32))) g ((l.take (k + 1)).map up ++ l.drop (k + 1))) := by
          have := Buf.set HF.out k (up c) (by rw [take_len, ← HN.out]; exact hkn)
          rw [take_set l up k c HC.out] at this
          have e : ((up c : Nat) : Int) = (c : Int) - 32 := by unfold up; rw [if_pos hcr]; omega
          rw [e] at this
          exact this
        have HB2 : Hid (Below w.heap.size w (wr.setCell ⟨g, k, none⟩ (.int .u8 ((c : Int) - 32)))) := HB.out.setCell hgw _
        go_wp2
        go_roundw
        case rel => exact ⟨k + 1, by omega, by simp, HBx.out, HB2.out⟩
        case measure => simp [intOf]; omega
      · have hs : up c = c := by unfold up; rw [if_neg hcr]
        have HS : Hid _ := hs
        clear hs
        have hcs : c < 97 ∨ 122 < c := by omega
        clear hcr
        rcases hcs with h1 | h1
        all_goals
          go_wp2
          go_roundw
          case rel => exact ⟨k + 1, by omega, by simp, by rw [← take_keep l up k c HC.out HS.out]; exact HF.out, HB.out⟩
          case measure => simp [intOf]; omega
    · have e : k = m := by omega
      subst e
      have hst := Buf.str HF.out (n := n) (by rw [take_len, ← HN.out]) cap
      have HL : Hid ((l.take k).map up ++ l.drop k = greatL k l) := rfl
      rw [HL.out] at hst
      go_wp2
      go_ret
      exact ⟨rfl, HB.out⟩
end Go.Proofs.YtmdpakkldapciaaDoor

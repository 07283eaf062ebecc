/-
  Walk of newsreellaw5.AddrParses.
-/
import Derived.Test.YtmdpakkldapciaaDoorFnRefH
import Derived.Test.YtmdpakkldapciaaDoorL5Wild
import Derived.Test.YtmdpakkldapciaaDoorFnChanged
namespace Go.Proofs.YtmdpakkldapciaaDoor
open Go.RowKit NumMath
open AddrMath (parse right hostOf)
set_option maxRecDepth 100000
set_option linter.unusedVariables false
set_option linter.unusedSimpArgs false

theorem ints8_back (ys : List Int) (h : ∀ x ∈ ys, 0 ≤ x ∧ x ≤ 255) : ints8 (ys.map Int.toNat) = ys := by
  unfold ints8
  rw [List.map_map]
  conv => rhs; rw [← List.map_id ys]
  apply List.map_congr_left
  intro x hx
  have := h x hx
  show ((x.toNat : Nat) : Int) = x
  omega
theorem changed_str (l : List Nat) (ix by_ how : Int) (w : World) (hl : ∀ c ∈ l, c < 256) (hm : l.length ≤ 10000)
    (h0 : -9223372036854775808 ≤ ix) (h1 : ix ≤ 9223372036854775807) (hby : 0 ≤ by_ ∧ by_ ≤ 255) (hho : 0 ≤ how ∧ how ≤ 255) :
    Calls Tryd.prog 12 #[.slice (some ⟨w.heap.size, 0, none⟩) l.length (grownCap w l.length 0 5), .int .i64 ix, .int .u8 by_, .int .u8 how] (Lib.bytesWorld w 5 (strN l)) fun e w' => ∃ (v : Value) (ys : List Nat), e = .returned v ∧ (∀ c ∈ ys, c < 256) ∧ ys.length ≤ l.length + 1 ∧ (convert 24 9 v).run Tryd.prog w' = .ok (.string (strN ys)) w' ∧ Below w.heap.size w w' := by
  have hB := bytes_below w l
  have hc := changed_any (some ⟨w.heap.size, 0, none⟩) (ints8 l) (grownCap w l.length 0 5) ix by_ how (Lib.bytesWorld w 5 (strN l)) (Buf.new w l hl).row (by
      intro c hc
      obtain ⟨n, hn, rfl⟩ := List.mem_map.1 hc
      have := hl n hn
      show (0 : Int) ≤ (n : Int) ∧ (n : Int) ≤ 255
      omega) (by rw [ints8_len]; exact grownCap_ge _ _ _ _) (grownCap_le_maxLen w _ 0 _ (by unfold maxLen; omega)) (fun h => by cases h) (by rw [ints8_len]; omega) h0 h1 hby hho
  rw [ints8_len] at hc
  refine Calls.mono hc ?_
  rintro e w' ⟨v, rfl, ys, ⟨a, c, rfl, hr, hb, _⟩, hyl, hbel⟩
  refine ⟨_, ys.map Int.toNat, rfl, ?_, by simpa using hyl, ?_, hB.trans (hbel.mono hB.size)⟩
  · intro c hc
    obtain ⟨x, hx, rfl⟩ := List.mem_map.1 hc
    have := hb x hx
    omega
  · have := row_string (cap := c) hr
    rw [this, ← strOf_ints8, ints8_back ys hb]

set_option maxRecDepth 100000 in
set_option maxHeartbeats 8000000 in
theorem addrParses_walk (s0 : ByteArray) (n1 n2 n3 n4 n5 : Int) (W : World) (ht : MaxLen W) (hs0 : s0.size ≤ 140737488355328) (w1 : (Lit.int .u8 n1).wf = true) (w2 : (Lit.int .u8 n2).wf = true) (w3 : (Lit.int .u8 n3).wf = true) (w4 : (Lit.int .i64 n4).wf = true) (w5 : (Lit.int .u8 n5).wf = true) :
    Calls Tryd.prog 3 #[.string s0, .int .u8 n1, .int .u8 n2, .int .u8 n3, .int .i64 n4, .int .u8 n5] W fun e W' => e = .returned (.bool true) ∧ Below W.heap.size W W' := by
  obtain ⟨s, hsb, rfl⟩ := any_str s0
  have hb1 := bounds_u8 w1
  have hb2 := bounds_u8 w2
  have hb3 := bounds_u8 w3
  have hb4 := bounds_i64 w4
  have hb5 := bounds_u8 w5
  obtain ⟨k, rfl⟩ : ∃ n : Nat, n1 = (n : Int) := ⟨n1.toNat, by omega⟩
  obtain ⟨j, rfl⟩ : ∃ n : Nat, n2 = (n : Int) := ⟨n2.toNat, by omega⟩
  obtain ⟨i, rfl⟩ : ∃ n : Nat, n3 = (n : Int) := ⟨n3.toNat, by omega⟩
  have hk : k < 256 := by omega
  have hj : j < 256 := by omega
  have hi : i < 256 := by omega
  have HT : Hid _ := ht
  have HK : Hid _ := known_any W ht
  have hsz := strN_size s
  clear w1 w2 w3 w4 w5 ht hb1 hb2 hs0
  by_cases hbig : s.length ≤ 1000
  · have HWi : Hid (∀ w, _) := fun w => wild_any k j w hk hj
    have HAd : Hid (∀ w, _) := fun w => seatAddr_any i w hi
    obtain ⟨hab, hal, _⟩ := addrs_lt _ (seatA5_mem i)
    generalize seatA5 i = A at *
    obtain ⟨As, hAs⟩ : ∃ x, x = A ++ s := ⟨_, rfl⟩
    have hcA : ∀ w, (Op.stringOp BinOp.add (strN A) (strN s)).run Tryd.prog w = .ok (.string (strN As)) w := by rw [hAs]; exact sum_strN A s (by omega)
    have HPA : Hid (∀ w, MaxLen w → _) := fun w ht => parses_any As w ht (by rw [hAs]; exact app_lt hab hsb) (by rw [hAs]; simp; omega)
    obtain ⟨Hs, hHs⟩ : ∃ x, x = [104, 116, 116, 112, 58, 47, 47, 97, 46, 98] ++ s := ⟨_, rfl⟩
    have hcH : ∀ w, (Op.stringOp BinOp.add ⟨#[104, 116, 116, 112, 58, 47, 47, 97, 46, 98]⟩ (strN s)).run Tryd.prog w = .ok (.string (strN Hs)) w := by rw [hHs]; exact sum_strN [104, 116, 116, 112, 58, 47, 47, 97, 46, 98] s (by simp; omega)
    have HPH : Hid (∀ w, MaxLen w → _) := fun w ht => parses_any Hs w ht (by rw [hHs]; exact app_lt (by decide) hsb) (by rw [hHs]; simp; omega)
    obtain ⟨Ts, hTs⟩ : ∃ x, x = [104, 116, 116, 112, 115, 58, 47, 47, 97, 46, 98, 47] ++ s := ⟨_, rfl⟩
    have hcT : ∀ w, (Op.stringOp BinOp.add ⟨#[104, 116, 116, 112, 115, 58, 47, 47, 97, 46, 98, 47]⟩ (strN s)).run Tryd.prog w = .ok (.string (strN Ts)) w := by rw [hTs]; exact sum_strN [104, 116, 116, 112, 115, 58, 47, 47, 97, 46, 98, 47] s (by simp; omega)
    have HPT : Hid (∀ w, MaxLen w → _) := fun w ht => parses_any Ts w ht (by rw [hTs]; exact app_lt (by decide) hsb) (by rw [hTs]; simp; omega)
    have HPs : Hid (∀ w, MaxLen w → _) := fun w ht => parses_any s w ht hsb (by omega)
    clear hAs hHs hTs
    go_enter Tryd.func3, Tryd.ntmps3
    go_wp2_with fail
    refine Calls.mono HK.out ?_
    rintro e w1 ⟨rfl, hb1⟩
    have HB1 : Hid _ := hb1
    clear hb1
    go_wp2_with fail
    refine Calls.mono (HWi.out _) ?_
    rintro e w2 ⟨⟨l, rfl, hlb, hll⟩, hb2⟩
    have HB2 : Hid _ := HB1.out.trans (hb2.mono HB1.out.size)
    clear hb2
    obtain ⟨Ls, hLs⟩ : ∃ x, x = l ++ s := ⟨_, rfl⟩
    have hcL : ∀ w, (Op.stringOp BinOp.add (strN l) (strN s)).run Tryd.prog w = .ok (.string (strN Ls)) w := by rw [hLs]; exact sum_strN l s (by omega)
    have HPL : Hid (∀ w, MaxLen w → _) := fun w ht => parses_any Ls w ht (by rw [hLs]; exact app_lt hlb hsb) (by rw [hLs]; simp; omega)
    have HPl : Hid (∀ w, MaxLen w → _) := fun w ht => parses_any l w ht hlb (by omega)
    have hconv := conv_bytes w2 l
    have HCh : Hid _ := changed_str l n4 n5 (i : Int) w2 hlb (by omega) hb4.1 hb4.2 hb5 hb3
    obtain ⟨nl, hnl⟩ : ∃ n, n = l.length := ⟨_, rfl⟩
    rw [← hnl] at hconv HCh
    generalize grownCap w2 nl 0 5 = cap at *
    have hnl2 : nl ≤ 48 := by omega
    clear hLs hnl hll
    go_wp2_with fail
    refine Calls.mono HCh.out ?_
    rintro e w3 ⟨v, ys, rfl, hyb, hyl, hst, hb3⟩
    have HB3 : Hid _ := HB2.out.trans (hb3.mono HB2.out.size)
    have HPy : Hid (∀ w, MaxLen w → _) := fun w ht => parses_any ys w ht hyb (by omega)
    clear hb3 hconv HCh
    go_wp2_with fail
    refine Calls.mono (HPs.out _ (MaxLen.later HT.out HB3.out)) ?_
    rintro e w4 ⟨rfl, hb4⟩
    have HB4 : Hid _ := HB3.out.trans (hb4.mono HB3.out.size)
    clear hb4 hst
    go_wp2_with fail
    refine Calls.mono (HPl.out _ (MaxLen.later HT.out HB4.out)) ?_
    rintro e w5 ⟨rfl, hb5⟩
    have HB5 : Hid _ := HB4.out.trans (hb5.mono HB4.out.size)
    clear hb5
    go_wp2_with fail
    refine Calls.mono (HPy.out _ (MaxLen.later HT.out HB5.out)) ?_
    rintro e w6 ⟨rfl, hb6⟩
    have HB6 : Hid _ := HB5.out.trans (hb6.mono HB5.out.size)
    clear hb6
    go_wp2_with fail
    refine Calls.mono (HPL.out _ (MaxLen.later HT.out HB6.out)) ?_
    rintro e w7 ⟨rfl, hb7⟩
    have HB7 : Hid _ := HB6.out.trans (hb7.mono HB6.out.size)
    clear hb7
    go_wp2_with fail
    refine Calls.mono (HPH.out _ (MaxLen.later HT.out HB7.out)) ?_
    rintro e w8 ⟨rfl, hb8⟩
    have HB8 : Hid _ := HB7.out.trans (hb8.mono HB7.out.size)
    clear hb8
    go_wp2_with fail
    refine Calls.mono (HPT.out _ (MaxLen.later HT.out HB8.out)) ?_
    rintro e w9 ⟨rfl, hb9⟩
    have HB9 : Hid _ := HB8.out.trans (hb9.mono HB8.out.size)
    clear hb9
    go_wp2_with fail
    refine Calls.mono (HAd.out _) ?_
    rintro e w10 ⟨rfl, hb10⟩
    have HB10 : Hid _ := HB9.out.trans (hb10.mono HB9.out.size)
    clear hb10
    go_wp2_with fail
    refine Calls.mono (HPA.out _ (MaxLen.later HT.out HB10.out)) ?_
    rintro e w11 ⟨rfl, hb11⟩
    have HB11 : Hid _ := HB10.out.trans (hb11.mono HB10.out.size)
    clear hb11
    go_wp2
    go_ret
    exact ⟨rfl, HB11.out⟩
  · have hgt : 1000 < s.length := by omega
    clear hbig
    go_enter Tryd.func3, Tryd.ntmps3
    go_wp2_with fail
    refine Calls.mono HK.out ?_
    rintro e w1 ⟨rfl, hb1⟩
    have HB1 : Hid _ := hb1
    clear hb1
    go_wp2
    go_ret
    exact ⟨rfl, HB1.out⟩
end Go.Proofs.YtmdpakkldapciaaDoor

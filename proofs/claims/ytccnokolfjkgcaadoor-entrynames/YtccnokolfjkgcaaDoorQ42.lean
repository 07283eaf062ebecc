/-
  L6Names.
-/
import Derived.Test.YtccnokolfjkgcaaDoorQ41
import Derived.Test.YtccnokolfjkgcaaDoorQ08
namespace Go.Proofs.YtccnokolfjkgcaaDoor
open Go.RowKit NumMath
open EntMath (E guidOf)
set_option maxRecDepth 100000
set_option linter.unusedVariables false
set_option linter.unusedSimpArgs false

theorem addrs_right : ∀ a ∈ addrs, AddrMath.parse a = (a, 0) := by decide +kernel
theorem addrs_ne : ∀ a ∈ addrs, a ≠ [] := by decide
theorem cutB_nil (n : Int) : TxtMath.cutB [] n = [] := by
  have : TxtMath.clean (TxtMath.runes []) = [] := rfl
  unfold TxtMath.cutB TxtMath.cutR
  rw [this]
  simp [TxtMath.trimR, TxtMath.encs]
/-- What becomes of an entry whose addresses are in their form. -/
theorem clean_named {F L guid title : List Nat} {n : Int} (hF : AddrMath.parse F = (F, 0)) (hL : EntMath.linkP L = (L, 0)) (h0 : 0 ≤ n) (h1 : n ≤ 65535) :
    EntMath.clean ⟨F, guid, title, L, [], n⟩ = if guidOf (TxtMath.cleanB guid) L (TxtMath.cutB title 120) = [] then (EntMath.zero, 26) else if 200 < (TxtMath.runes (guidOf (TxtMath.cleanB guid) L (TxtMath.cutB title 120))).length then (EntMath.zero, 23) else (⟨F, guidOf (TxtMath.cleanB guid) L (TxtMath.cutB title 120), TxtMath.cutB title 120, L, [], n⟩, 0) := by
  unfold EntMath.clean
  simp only []
  rw [hF, hL, cutB_nil]
  unfold EntMath.cleanG
  rw [if_neg (by simp), if_neg (by simp)]
  split
  · rfl
  · split
    · rfl
    · rw [if_neg (by omega)]

set_option maxHeartbeats 16000000 in
theorem entryNames_F (s t : List Nat) (k j at_ : Nat) (W : World) (ht : Env W) (hsb : ∀ c ∈ s, c < 256) (htb : ∀ c ∈ t, c < 256) (hsl : s.length ≤ 900) (htl : t.length ≤ 600) (hk : k < 256) (hj : j < 256) (ha : at_ < 65536) :
    Calls Tryd.prog 3 #[.string (strN s), .string (strN t), .int .u8 (k : Int), .int .u8 (j : Int), .bool false, .int .u16 (at_ : Int)] W fun r W' => r = .returned (.bool true) ∧ Below W.heap.size W W' := by
  have HT0 : Hid _ := ht
  have HK : Hid _ := known_any W ht
  have hsz := strN_size s
  have htz := strN_size t
  have HAk : Hid (∀ w, _) := fun w => seatAddr_any k w hk
  have HAj : Hid (∀ w, _) := fun w => seatAddr_any j w hj
  have hFp := addrs_right _ (seatA5_mem k)
  have hJp := addrs_right _ (seatA5_mem j)
  have hJn := addrs_ne _ (seatA5_mem j)
  obtain ⟨hFb, hFl, _⟩ := addrs_lt _ (seatA5_mem k)
  obtain ⟨hJb, hJl, _⟩ := addrs_lt _ (seatA5_mem j)
  have hwa : IntKind.i64.wrap (at_ : Int) = (at_ : Int) := by rw [IntKind.wrap_i64]; omega
  generalize seatA5 k = F at *
  generalize seatA5 j = J at *
  have hai : (at_ : Int) ≤ 65535 := by omega
  have hLp : EntMath.linkP [] = ([], 0) := by rfl
  have hcl := clean_named (guid := s) (title := t) (n := (at_ : Int)) hFp hLp (by omega) hai
  have hfit : EFit ⟨F, s, t, [], [], (at_ : Int)⟩ := ⟨hFb, hsb, htb, by simp, by simp, by show F.length ≤ 10000; omega, by show s.length ≤ 10000; omega, by show t.length ≤ 10000; omega, by simp, by simp, by show _ ≤ (at_ : Int); omega, by show (at_ : Int) ≤ _; omega⟩
  have HCl : Hid (∀ w, MaxLen w → _) := fun w ht => entClean_any ⟨F, s, t, [], [], (at_ : Int)⟩ w ht hfit
  have HTc : Hid (∀ w, _) := fun w => clean_any s w hsb (by omega)
  have HCu : Hid (∀ w, _) := fun w => cut_any t 120 w htb (by omega) (by omega)
  have hgb := cleanB_lt s
  have hgl := cleanB_len s
  have hub := EntMath.cutB_lt t 120
  have hul := EntMath.cutB_len t 120
  have hxf := EntMath.clean_any_fit ⟨F, s, t, [], [], (at_ : Int)⟩
  generalize TxtMath.cleanB s = g at *
  generalize TxtMath.cutB t 120 = u at *
  have eg := strN_nil_eq g hgb
  have eu := strN_nil_eq u hub
  have eJ := strN_nil_eq J hJb
  clear ht
  suffices H : ∀ Nm : List Nat, (∀ c ∈ Nm, c < 256) → Nm.length ≤ 10000 → guidOf g [] u = Nm → ((g ≠ [] ∧ Nm = g) ∨ (g = [] ∧ Nm = u)) →
      Calls Tryd.prog 3 #[.string (strN s), .string (strN t), .int .u8 (k : Int), .int .u8 (j : Int), .bool false, .int .u16 (at_ : Int)] W fun r W' => r = .returned (.bool true) ∧ Below W.heap.size W W' by
    by_cases hg : g = []
    · exact H u hub (by omega) (by unfold EntMath.guidOf; rw [if_pos hg, if_pos rfl]) (.inr ⟨hg, rfl⟩)
    · exact H g hgb (by omega) (by unfold EntMath.guidOf; rw [if_neg hg]) (.inl ⟨hg, rfl⟩)
  intro Nm hNb hNl hNm hpath
  rw [hNm] at hcl
  have HRu : Hid (∀ w, _) := fun w => runes_any Nm w hNb (by omega)
  have eN := strN_nil_eq Nm hNb
  have HNm : Hid _ := hNm
  clear hNm
  by_cases hE : Nm = []
  · have hq := hcl.trans (if_pos hE)
    rw [hq] at HCl
    rw [show decide (Nm = []) = true by simp [hE]] at eN
    have HE : Hid _ := hE
    clear hq hcl hE hxf eu eJ
    rcases hpath with ⟨hg, hn⟩ | ⟨hg, hn⟩
    · rw [show decide (g = []) = false by simp [hg]] at eg
      exact absurd (hn.symm.trans HE.out) hg
    · rw [show decide (g = []) = true by simp [hg]] at eg
      clear hg
      have hn' := hn.symm
      clear hn
      subst hn'
      have HCl2 : Hid (∀ w, MaxLen w → Calls Tryd.prog 6 #[.agg #[.string (strN F), .string (strN s), .string (strN t), .string ⟨#[]⟩, .string ⟨#[]⟩, .int .i64 (at_ : Int)]] w fun r w' => r = .returned (.tuple #[.agg #[.string ⟨#[]⟩, .string ⟨#[]⟩, .string ⟨#[]⟩, .string ⟨#[]⟩, .string ⟨#[]⟩, .int .i64 0], .int .i64 26]) ∧ Below w.heap.size w w') := HCl.out
      clear HCl
      go_enter Tryd.func3, Tryd.ntmps3
      go_wp2_with fail
      refine Calls.mono HK.out ?_
      rintro r w1 ⟨rfl, hb⟩
      have HB1 : Hid _ := hb
      clear hb
      go_wp2_with fail
      refine Calls.mono (HAk.out _) ?_
      rintro r w2 ⟨rfl, hb⟩
      have HB2 : Hid _ := HB1.out.trans (hb.mono HB1.out.size)
      clear hb HB1
      have HE3 : Hid (EntAt (w2.alloc (.cells #[.string (strN F), .string (strN s), .string (strN t), .string ⟨#[]⟩, .string ⟨#[]⟩, .int .i64 (at_ : Int)] 26)) w2.heap.size ⟨F, s, t, [], [], (at_ : Int)⟩) := EntAt.new w2 ⟨F, s, t, [], [], (at_ : Int)⟩
      have HB3 : Hid (Below W.heap.size W (w2.alloc (.cells #[.string (strN F), .string (strN s), .string (strN t), .string ⟨#[]⟩, .string ⟨#[]⟩, .int .i64 (at_ : Int)] 26))) := HB2.out.alloc HB2.out.size _
      have HG3 : Hid (W.heap.size ≤ w2.heap.size) := HB2.out.size
      go_wp2_with fail
      generalize (w2.alloc (.cells #[.string (strN F), .string (strN s), .string (strN t), .string ⟨#[]⟩, .string ⟨#[]⟩, .int .i64 (at_ : Int)] 26)) = w3 at *
      generalize w2.heap.size = g1 at *
      have HE5 : Hid _ := HE3.out
      have HB5 : Hid _ := HB3.out
      clear HE3 HB3
      have HT5 : Hid (Env w3) := HT0.out.later HB5.out
      refine Calls.mono (HCl2.out _ HT5.out.max) ?_
      rintro r w6 ⟨rfl, hb⟩
      have HE6 : Hid _ := HE5.out.later hb HE5.out.lt
      have HB6 : Hid _ := HB5.out.trans (hb.mono HB5.out.size)
      clear hb HB5 HE5 HT5 HCl2
      have HX7 : Hid (EntAt (w6.alloc (.cells #[.string ⟨#[]⟩, .string ⟨#[]⟩, .string ⟨#[]⟩, .string ⟨#[]⟩, .string ⟨#[]⟩, .int .i64 0] 26)) w6.heap.size EntMath.zero) := EntAt.new w6 EntMath.zero
      have HE7 : Hid (EntAt (w6.alloc (.cells #[.string ⟨#[]⟩, .string ⟨#[]⟩, .string ⟨#[]⟩, .string ⟨#[]⟩, .string ⟨#[]⟩, .int .i64 0] 26)) g1 _) := HE6.out.alloc _
      have HB7 : Hid (Below W.heap.size W (w6.alloc (.cells #[.string ⟨#[]⟩, .string ⟨#[]⟩, .string ⟨#[]⟩, .string ⟨#[]⟩, .string ⟨#[]⟩, .int .i64 0] 26))) := HB6.out.alloc HB6.out.size _
      go_wp2_with fail
      generalize (w6.alloc (.cells #[.string ⟨#[]⟩, .string ⟨#[]⟩, .string ⟨#[]⟩, .string ⟨#[]⟩, .string ⟨#[]⟩, .int .i64 0] 26)) = w7 at *
      generalize w6.heap.size = g2 at *
      clear HE6 HB6
      refine Calls.mono (HTc.out _) ?_
      rintro r w8 ⟨rfl, hb⟩
      have HE8 : Hid _ := HE7.out.later hb HE7.out.lt
      have HX8 : Hid _ := HX7.out.later hb HX7.out.lt
      have HB8 : Hid _ := HB7.out.trans (hb.mono HB7.out.size)
      clear hb HE7 HX7 HB7
      go_wp2_with fail
      refine Calls.mono (HCu.out _) ?_
      rintro r w9 ⟨rfl, hb⟩
      have HE9 : Hid _ := HE8.out.later hb HE8.out.lt
      have HX9 : Hid _ := HX8.out.later hb HX8.out.lt
      have HB9 : Hid _ := HB8.out.trans (hb.mono HB8.out.size)
      clear hb HE8 HX8 HB8
      obtain ⟨c0, c1, c2, q3, q4, c5⟩ := HE9.out.cells
      have c3 : w9.cell? ⟨g1, 3, none⟩ = some (.string ⟨#[]⟩) := q3
      have c4 : w9.cell? ⟨g1, 4, none⟩ = some (.string ⟨#[]⟩) := q4
      clear q3 q4
      have d0 : w9.cell? ⟨g2, 0, none⟩ = some (.string ⟨#[]⟩) := (EntAt.cells HX9.out).1
      have d1 : w9.cell? ⟨g2, 1, none⟩ = some (.string ⟨#[]⟩) := (EntAt.cells HX9.out).2.1
      have d2 : w9.cell? ⟨g2, 2, none⟩ = some (.string ⟨#[]⟩) := (EntAt.cells HX9.out).2.2.1
      have d3 : w9.cell? ⟨g2, 3, none⟩ = some (.string ⟨#[]⟩) := (EntAt.cells HX9.out).2.2.2.1
      have d4 : w9.cell? ⟨g2, 4, none⟩ = some (.string ⟨#[]⟩) := (EntAt.cells HX9.out).2.2.2.2.1
      have d5 : w9.cell? ⟨g2, 5, none⟩ = some (.int .i64 0) := (EntAt.cells HX9.out).2.2.2.2.2
      have hlt := HE9.out.lt
      have hlt2 := HX9.out.lt
      go_wp2
      go_ret
      exact ⟨rfl, HB9.out⟩
  · have hq := hcl.trans (if_neg hE)
    rw [show decide (Nm = []) = false by simp [hE]] at eN
    clear hcl hE hxf eu eJ
    generalize (TxtMath.runes Nm).length = n at *
    by_cases hn200 : 200 < n
    · rw [if_pos hn200] at hq
      rw [hq] at HCl
      have hn2 : (200 : Int) < (n : Int) := by omega
      clear hq
      rcases hpath with ⟨hg, hn⟩ | ⟨hg, hn⟩
      · rw [show decide (g = []) = false by simp [hg]] at eg
        clear hg eN
        have hn' := hn.symm
        clear hn
        subst hn'
        have HCl2 : Hid (∀ w, MaxLen w → Calls Tryd.prog 6 #[.agg #[.string (strN F), .string (strN s), .string (strN t), .string ⟨#[]⟩, .string ⟨#[]⟩, .int .i64 (at_ : Int)]] w fun r w' => r = .returned (.tuple #[.agg #[.string ⟨#[]⟩, .string ⟨#[]⟩, .string ⟨#[]⟩, .string ⟨#[]⟩, .string ⟨#[]⟩, .int .i64 0], .int .i64 23]) ∧ Below w.heap.size w w') := HCl.out
        clear HCl
        go_enter Tryd.func3, Tryd.ntmps3
        go_wp2_with fail
        refine Calls.mono HK.out ?_
        rintro r w1 ⟨rfl, hb⟩
        have HB1 : Hid _ := hb
        clear hb
        go_wp2_with fail
        refine Calls.mono (HAk.out _) ?_
        rintro r w2 ⟨rfl, hb⟩
        have HB2 : Hid _ := HB1.out.trans (hb.mono HB1.out.size)
        clear hb HB1
        have HE3 : Hid (EntAt (w2.alloc (.cells #[.string (strN F), .string (strN s), .string (strN t), .string ⟨#[]⟩, .string ⟨#[]⟩, .int .i64 (at_ : Int)] 26)) w2.heap.size ⟨F, s, t, [], [], (at_ : Int)⟩) := EntAt.new w2 ⟨F, s, t, [], [], (at_ : Int)⟩
        have HB3 : Hid (Below W.heap.size W (w2.alloc (.cells #[.string (strN F), .string (strN s), .string (strN t), .string ⟨#[]⟩, .string ⟨#[]⟩, .int .i64 (at_ : Int)] 26))) := HB2.out.alloc HB2.out.size _
        have HG3 : Hid (W.heap.size ≤ w2.heap.size) := HB2.out.size
        go_wp2_with fail
        generalize (w2.alloc (.cells #[.string (strN F), .string (strN s), .string (strN t), .string ⟨#[]⟩, .string ⟨#[]⟩, .int .i64 (at_ : Int)] 26)) = w3 at *
        generalize w2.heap.size = g1 at *
        have HE5 : Hid _ := HE3.out
        have HB5 : Hid _ := HB3.out
        clear HE3 HB3
        have HT5 : Hid (Env w3) := HT0.out.later HB5.out
        refine Calls.mono (HCl2.out _ HT5.out.max) ?_
        rintro r w6 ⟨rfl, hb⟩
        have HE6 : Hid _ := HE5.out.later hb HE5.out.lt
        have HB6 : Hid _ := HB5.out.trans (hb.mono HB5.out.size)
        clear hb HB5 HE5 HT5 HCl2
        have HX7 : Hid (EntAt (w6.alloc (.cells #[.string ⟨#[]⟩, .string ⟨#[]⟩, .string ⟨#[]⟩, .string ⟨#[]⟩, .string ⟨#[]⟩, .int .i64 0] 26)) w6.heap.size EntMath.zero) := EntAt.new w6 EntMath.zero
        have HE7 : Hid (EntAt (w6.alloc (.cells #[.string ⟨#[]⟩, .string ⟨#[]⟩, .string ⟨#[]⟩, .string ⟨#[]⟩, .string ⟨#[]⟩, .int .i64 0] 26)) g1 _) := HE6.out.alloc _
        have HB7 : Hid (Below W.heap.size W (w6.alloc (.cells #[.string ⟨#[]⟩, .string ⟨#[]⟩, .string ⟨#[]⟩, .string ⟨#[]⟩, .string ⟨#[]⟩, .int .i64 0] 26))) := HB6.out.alloc HB6.out.size _
        go_wp2_with fail
        generalize (w6.alloc (.cells #[.string ⟨#[]⟩, .string ⟨#[]⟩, .string ⟨#[]⟩, .string ⟨#[]⟩, .string ⟨#[]⟩, .int .i64 0] 26)) = w7 at *
        generalize w6.heap.size = g2 at *
        clear HE6 HB6
        refine Calls.mono (HTc.out _) ?_
        rintro r w8 ⟨rfl, hb⟩
        have HE8 : Hid _ := HE7.out.later hb HE7.out.lt
        have HX8 : Hid _ := HX7.out.later hb HX7.out.lt
        have HB8 : Hid _ := HB7.out.trans (hb.mono HB7.out.size)
        clear hb HE7 HX7 HB7
        go_wp2_with fail
        refine Calls.mono (HCu.out _) ?_
        rintro r w9 ⟨rfl, hb⟩
        have HE9 : Hid _ := HE8.out.later hb HE8.out.lt
        have HX9 : Hid _ := HX8.out.later hb HX8.out.lt
        have HB9 : Hid _ := HB8.out.trans (hb.mono HB8.out.size)
        clear hb HE8 HX8 HB8
        obtain ⟨c0, c1, c2, q3, q4, c5⟩ := HE9.out.cells
        have c3 : w9.cell? ⟨g1, 3, none⟩ = some (.string ⟨#[]⟩) := q3
        have c4 : w9.cell? ⟨g1, 4, none⟩ = some (.string ⟨#[]⟩) := q4
        clear q3 q4
        have d0 : w9.cell? ⟨g2, 0, none⟩ = some (.string ⟨#[]⟩) := (EntAt.cells HX9.out).1
        have d1 : w9.cell? ⟨g2, 1, none⟩ = some (.string ⟨#[]⟩) := (EntAt.cells HX9.out).2.1
        have d2 : w9.cell? ⟨g2, 2, none⟩ = some (.string ⟨#[]⟩) := (EntAt.cells HX9.out).2.2.1
        have d3 : w9.cell? ⟨g2, 3, none⟩ = some (.string ⟨#[]⟩) := (EntAt.cells HX9.out).2.2.2.1
        have d4 : w9.cell? ⟨g2, 4, none⟩ = some (.string ⟨#[]⟩) := (EntAt.cells HX9.out).2.2.2.2.1
        have d5 : w9.cell? ⟨g2, 5, none⟩ = some (.int .i64 0) := (EntAt.cells HX9.out).2.2.2.2.2
        have hlt := HE9.out.lt
        have hlt2 := HX9.out.lt
        go_wp2_with fail
        refine Calls.mono (HRu.out _) ?_
        rintro r w10 ⟨rfl, hb⟩
        have HE10 : Hid _ := HE9.out.later hb HE9.out.lt
        have HX10 : Hid _ := HX9.out.later hb HX9.out.lt
        have HB10 : Hid _ := HB9.out.trans (hb.mono HB9.out.size)
        clear hb HE9 HX9 HB9 c0 c1 c2 c3 c4 c5 d0 d1 d2 d3 d4 d5 hlt hlt2
        obtain ⟨c0, c1, c2, q3, q4, c5⟩ := HE10.out.cells
        have c3 : w10.cell? ⟨g1, 3, none⟩ = some (.string ⟨#[]⟩) := q3
        have c4 : w10.cell? ⟨g1, 4, none⟩ = some (.string ⟨#[]⟩) := q4
        clear q3 q4
        have d0 : w10.cell? ⟨g2, 0, none⟩ = some (.string ⟨#[]⟩) := (EntAt.cells HX10.out).1
        have d1 : w10.cell? ⟨g2, 1, none⟩ = some (.string ⟨#[]⟩) := (EntAt.cells HX10.out).2.1
        have d2 : w10.cell? ⟨g2, 2, none⟩ = some (.string ⟨#[]⟩) := (EntAt.cells HX10.out).2.2.1
        have d3 : w10.cell? ⟨g2, 3, none⟩ = some (.string ⟨#[]⟩) := (EntAt.cells HX10.out).2.2.2.1
        have d4 : w10.cell? ⟨g2, 4, none⟩ = some (.string ⟨#[]⟩) := (EntAt.cells HX10.out).2.2.2.2.1
        have d5 : w10.cell? ⟨g2, 5, none⟩ = some (.int .i64 0) := (EntAt.cells HX10.out).2.2.2.2.2
        have hlt := HE10.out.lt
        have hlt2 := HX10.out.lt
        clear hsb htb hsl htl hk hj ha hsz htz hFp hFb hFl hJp hJb hJl hJn hwa hai hLp hfit hgb hgl hub hul hNb hNl
        go_wp2
        go_ret
        exact ⟨rfl, HB10.out⟩
      · rw [show decide (g = []) = true by simp [hg]] at eg
        clear hg
        have hn' := hn.symm
        clear hn
        subst hn'
        have HCl2 : Hid (∀ w, MaxLen w → Calls Tryd.prog 6 #[.agg #[.string (strN F), .string (strN s), .string (strN t), .string ⟨#[]⟩, .string ⟨#[]⟩, .int .i64 (at_ : Int)]] w fun r w' => r = .returned (.tuple #[.agg #[.string ⟨#[]⟩, .string ⟨#[]⟩, .string ⟨#[]⟩, .string ⟨#[]⟩, .string ⟨#[]⟩, .int .i64 0], .int .i64 23]) ∧ Below w.heap.size w w') := HCl.out
        clear HCl
        go_enter Tryd.func3, Tryd.ntmps3
        go_wp2_with fail
        refine Calls.mono HK.out ?_
        rintro r w1 ⟨rfl, hb⟩
        have HB1 : Hid _ := hb
        clear hb
        go_wp2_with fail
        refine Calls.mono (HAk.out _) ?_
        rintro r w2 ⟨rfl, hb⟩
        have HB2 : Hid _ := HB1.out.trans (hb.mono HB1.out.size)
        clear hb HB1
        have HE3 : Hid (EntAt (w2.alloc (.cells #[.string (strN F), .string (strN s), .string (strN t), .string ⟨#[]⟩, .string ⟨#[]⟩, .int .i64 (at_ : Int)] 26)) w2.heap.size ⟨F, s, t, [], [], (at_ : Int)⟩) := EntAt.new w2 ⟨F, s, t, [], [], (at_ : Int)⟩
        have HB3 : Hid (Below W.heap.size W (w2.alloc (.cells #[.string (strN F), .string (strN s), .string (strN t), .string ⟨#[]⟩, .string ⟨#[]⟩, .int .i64 (at_ : Int)] 26))) := HB2.out.alloc HB2.out.size _
        have HG3 : Hid (W.heap.size ≤ w2.heap.size) := HB2.out.size
        go_wp2_with fail
        generalize (w2.alloc (.cells #[.string (strN F), .string (strN s), .string (strN t), .string ⟨#[]⟩, .string ⟨#[]⟩, .int .i64 (at_ : Int)] 26)) = w3 at *
        generalize w2.heap.size = g1 at *
        have HE5 : Hid _ := HE3.out
        have HB5 : Hid _ := HB3.out
        clear HE3 HB3
        have HT5 : Hid (Env w3) := HT0.out.later HB5.out
        refine Calls.mono (HCl2.out _ HT5.out.max) ?_
        rintro r w6 ⟨rfl, hb⟩
        have HE6 : Hid _ := HE5.out.later hb HE5.out.lt
        have HB6 : Hid _ := HB5.out.trans (hb.mono HB5.out.size)
        clear hb HB5 HE5 HT5 HCl2
        have HX7 : Hid (EntAt (w6.alloc (.cells #[.string ⟨#[]⟩, .string ⟨#[]⟩, .string ⟨#[]⟩, .string ⟨#[]⟩, .string ⟨#[]⟩, .int .i64 0] 26)) w6.heap.size EntMath.zero) := EntAt.new w6 EntMath.zero
        have HE7 : Hid (EntAt (w6.alloc (.cells #[.string ⟨#[]⟩, .string ⟨#[]⟩, .string ⟨#[]⟩, .string ⟨#[]⟩, .string ⟨#[]⟩, .int .i64 0] 26)) g1 _) := HE6.out.alloc _
        have HB7 : Hid (Below W.heap.size W (w6.alloc (.cells #[.string ⟨#[]⟩, .string ⟨#[]⟩, .string ⟨#[]⟩, .string ⟨#[]⟩, .string ⟨#[]⟩, .int .i64 0] 26))) := HB6.out.alloc HB6.out.size _
        go_wp2_with fail
        generalize (w6.alloc (.cells #[.string ⟨#[]⟩, .string ⟨#[]⟩, .string ⟨#[]⟩, .string ⟨#[]⟩, .string ⟨#[]⟩, .int .i64 0] 26)) = w7 at *
        generalize w6.heap.size = g2 at *
        clear HE6 HB6
        refine Calls.mono (HTc.out _) ?_
        rintro r w8 ⟨rfl, hb⟩
        have HE8 : Hid _ := HE7.out.later hb HE7.out.lt
        have HX8 : Hid _ := HX7.out.later hb HX7.out.lt
        have HB8 : Hid _ := HB7.out.trans (hb.mono HB7.out.size)
        clear hb HE7 HX7 HB7
        go_wp2_with fail
        refine Calls.mono (HCu.out _) ?_
        rintro r w9 ⟨rfl, hb⟩
        have HE9 : Hid _ := HE8.out.later hb HE8.out.lt
        have HX9 : Hid _ := HX8.out.later hb HX8.out.lt
        have HB9 : Hid _ := HB8.out.trans (hb.mono HB8.out.size)
        clear hb HE8 HX8 HB8
        obtain ⟨c0, c1, c2, q3, q4, c5⟩ := HE9.out.cells
        have c3 : w9.cell? ⟨g1, 3, none⟩ = some (.string ⟨#[]⟩) := q3
        have c4 : w9.cell? ⟨g1, 4, none⟩ = some (.string ⟨#[]⟩) := q4
        clear q3 q4
        have d0 : w9.cell? ⟨g2, 0, none⟩ = some (.string ⟨#[]⟩) := (EntAt.cells HX9.out).1
        have d1 : w9.cell? ⟨g2, 1, none⟩ = some (.string ⟨#[]⟩) := (EntAt.cells HX9.out).2.1
        have d2 : w9.cell? ⟨g2, 2, none⟩ = some (.string ⟨#[]⟩) := (EntAt.cells HX9.out).2.2.1
        have d3 : w9.cell? ⟨g2, 3, none⟩ = some (.string ⟨#[]⟩) := (EntAt.cells HX9.out).2.2.2.1
        have d4 : w9.cell? ⟨g2, 4, none⟩ = some (.string ⟨#[]⟩) := (EntAt.cells HX9.out).2.2.2.2.1
        have d5 : w9.cell? ⟨g2, 5, none⟩ = some (.int .i64 0) := (EntAt.cells HX9.out).2.2.2.2.2
        have hlt := HE9.out.lt
        have hlt2 := HX9.out.lt
        go_wp2_with fail
        refine Calls.mono (HRu.out _) ?_
        rintro r w10 ⟨rfl, hb⟩
        have HE10 : Hid _ := HE9.out.later hb HE9.out.lt
        have HX10 : Hid _ := HX9.out.later hb HX9.out.lt
        have HB10 : Hid _ := HB9.out.trans (hb.mono HB9.out.size)
        clear hb HE9 HX9 HB9 c0 c1 c2 c3 c4 c5 d0 d1 d2 d3 d4 d5 hlt hlt2
        obtain ⟨c0, c1, c2, q3, q4, c5⟩ := HE10.out.cells
        have c3 : w10.cell? ⟨g1, 3, none⟩ = some (.string ⟨#[]⟩) := q3
        have c4 : w10.cell? ⟨g1, 4, none⟩ = some (.string ⟨#[]⟩) := q4
        clear q3 q4
        have d0 : w10.cell? ⟨g2, 0, none⟩ = some (.string ⟨#[]⟩) := (EntAt.cells HX10.out).1
        have d1 : w10.cell? ⟨g2, 1, none⟩ = some (.string ⟨#[]⟩) := (EntAt.cells HX10.out).2.1
        have d2 : w10.cell? ⟨g2, 2, none⟩ = some (.string ⟨#[]⟩) := (EntAt.cells HX10.out).2.2.1
        have d3 : w10.cell? ⟨g2, 3, none⟩ = some (.string ⟨#[]⟩) := (EntAt.cells HX10.out).2.2.2.1
        have d4 : w10.cell? ⟨g2, 4, none⟩ = some (.string ⟨#[]⟩) := (EntAt.cells HX10.out).2.2.2.2.1
        have d5 : w10.cell? ⟨g2, 5, none⟩ = some (.int .i64 0) := (EntAt.cells HX10.out).2.2.2.2.2
        have hlt := HE10.out.lt
        have hlt2 := HX10.out.lt
        clear hsb htb hsl htl hk hj ha hsz htz hFp hFb hFl hJp hJb hJl hJn hwa hai hLp hfit hgb hgl hub hul hNb hNl
        go_wp2
        go_ret
        exact ⟨rfl, HB10.out⟩
    · rw [if_neg hn200] at hq
      rw [hq] at HCl
      have hn2 : (n : Int) ≤ 200 := by omega
      clear hq hn200
      rcases hpath with ⟨hg, hn⟩ | ⟨hg, hn⟩
      · rw [show decide (g = []) = false by simp [hg]] at eg
        clear hg eN
        have hn' := hn.symm
        clear hn
        subst hn'
        have HCl2 : Hid (∀ w, MaxLen w → Calls Tryd.prog 6 #[.agg #[.string (strN F), .string (strN s), .string (strN t), .string ⟨#[]⟩, .string ⟨#[]⟩, .int .i64 (at_ : Int)]] w fun r w' => r = .returned (.tuple #[.agg #[.string (strN F), .string (strN g), .string (strN u), .string ⟨#[]⟩, .string ⟨#[]⟩, .int .i64 (at_ : Int)], .int .i64 0]) ∧ Below w.heap.size w w') := HCl.out
        clear HCl
        go_enter Tryd.func3, Tryd.ntmps3
        go_wp2_with fail
        refine Calls.mono HK.out ?_
        rintro r w1 ⟨rfl, hb⟩
        have HB1 : Hid _ := hb
        clear hb
        go_wp2_with fail
        refine Calls.mono (HAk.out _) ?_
        rintro r w2 ⟨rfl, hb⟩
        have HB2 : Hid _ := HB1.out.trans (hb.mono HB1.out.size)
        clear hb HB1
        have HE3 : Hid (EntAt (w2.alloc (.cells #[.string (strN F), .string (strN s), .string (strN t), .string ⟨#[]⟩, .string ⟨#[]⟩, .int .i64 (at_ : Int)] 26)) w2.heap.size ⟨F, s, t, [], [], (at_ : Int)⟩) := EntAt.new w2 ⟨F, s, t, [], [], (at_ : Int)⟩
        have HB3 : Hid (Below W.heap.size W (w2.alloc (.cells #[.string (strN F), .string (strN s), .string (strN t), .string ⟨#[]⟩, .string ⟨#[]⟩, .int .i64 (at_ : Int)] 26))) := HB2.out.alloc HB2.out.size _
        have HG3 : Hid (W.heap.size ≤ w2.heap.size) := HB2.out.size
        go_wp2_with fail
        generalize (w2.alloc (.cells #[.string (strN F), .string (strN s), .string (strN t), .string ⟨#[]⟩, .string ⟨#[]⟩, .int .i64 (at_ : Int)] 26)) = w3 at *
        generalize w2.heap.size = g1 at *
        have HE5 : Hid _ := HE3.out
        have HB5 : Hid _ := HB3.out
        clear HE3 HB3
        have HT5 : Hid (Env w3) := HT0.out.later HB5.out
        refine Calls.mono (HCl2.out _ HT5.out.max) ?_
        rintro r w6 ⟨rfl, hb⟩
        have HE6 : Hid _ := HE5.out.later hb HE5.out.lt
        have HB6 : Hid _ := HB5.out.trans (hb.mono HB5.out.size)
        clear hb HB5 HE5 HT5 HCl2
        have HX7 : Hid (EntAt (w6.alloc (.cells #[.string (strN F), .string (strN g), .string (strN u), .string ⟨#[]⟩, .string ⟨#[]⟩, .int .i64 (at_ : Int)] 26)) w6.heap.size ⟨F, g, u, [], [], (at_ : Int)⟩) := EntAt.new w6 ⟨F, g, u, [], [], (at_ : Int)⟩
        have HE7 : Hid (EntAt (w6.alloc (.cells #[.string (strN F), .string (strN g), .string (strN u), .string ⟨#[]⟩, .string ⟨#[]⟩, .int .i64 (at_ : Int)] 26)) g1 _) := HE6.out.alloc _
        have HB7 : Hid (Below W.heap.size W (w6.alloc (.cells #[.string (strN F), .string (strN g), .string (strN u), .string ⟨#[]⟩, .string ⟨#[]⟩, .int .i64 (at_ : Int)] 26))) := HB6.out.alloc HB6.out.size _
        go_wp2_with fail
        generalize (w6.alloc (.cells #[.string (strN F), .string (strN g), .string (strN u), .string ⟨#[]⟩, .string ⟨#[]⟩, .int .i64 (at_ : Int)] 26)) = w7 at *
        generalize w6.heap.size = g2 at *
        clear HE6 HB6
        refine Calls.mono (HTc.out _) ?_
        rintro r w8 ⟨rfl, hb⟩
        have HE8 : Hid _ := HE7.out.later hb HE7.out.lt
        have HX8 : Hid _ := HX7.out.later hb HX7.out.lt
        have HB8 : Hid _ := HB7.out.trans (hb.mono HB7.out.size)
        clear hb HE7 HX7 HB7
        go_wp2_with fail
        refine Calls.mono (HCu.out _) ?_
        rintro r w9 ⟨rfl, hb⟩
        have HE9 : Hid _ := HE8.out.later hb HE8.out.lt
        have HX9 : Hid _ := HX8.out.later hb HX8.out.lt
        have HB9 : Hid _ := HB8.out.trans (hb.mono HB8.out.size)
        clear hb HE8 HX8 HB8
        obtain ⟨c0, c1, c2, q3, q4, c5⟩ := HE9.out.cells
        have c3 : w9.cell? ⟨g1, 3, none⟩ = some (.string ⟨#[]⟩) := q3
        have c4 : w9.cell? ⟨g1, 4, none⟩ = some (.string ⟨#[]⟩) := q4
        clear q3 q4
        have d0 : w9.cell? ⟨g2, 0, none⟩ = some (.string (strN F)) := (EntAt.cells HX9.out).1
        have d1 : w9.cell? ⟨g2, 1, none⟩ = some (.string (strN g)) := (EntAt.cells HX9.out).2.1
        have d2 : w9.cell? ⟨g2, 2, none⟩ = some (.string (strN u)) := (EntAt.cells HX9.out).2.2.1
        have d3 : w9.cell? ⟨g2, 3, none⟩ = some (.string ⟨#[]⟩) := (EntAt.cells HX9.out).2.2.2.1
        have d4 : w9.cell? ⟨g2, 4, none⟩ = some (.string ⟨#[]⟩) := (EntAt.cells HX9.out).2.2.2.2.1
        have d5 : w9.cell? ⟨g2, 5, none⟩ = some (.int .i64 (at_ : Int)) := (EntAt.cells HX9.out).2.2.2.2.2
        have hlt := HE9.out.lt
        have hlt2 := HX9.out.lt
        go_wp2_with fail
        refine Calls.mono (HRu.out _) ?_
        rintro r w10 ⟨rfl, hb⟩
        have HE10 : Hid _ := HE9.out.later hb HE9.out.lt
        have HX10 : Hid _ := HX9.out.later hb HX9.out.lt
        have HB10 : Hid _ := HB9.out.trans (hb.mono HB9.out.size)
        clear hb HE9 HX9 HB9 c0 c1 c2 c3 c4 c5 d0 d1 d2 d3 d4 d5 hlt hlt2
        obtain ⟨c0, c1, c2, q3, q4, c5⟩ := HE10.out.cells
        have c3 : w10.cell? ⟨g1, 3, none⟩ = some (.string ⟨#[]⟩) := q3
        have c4 : w10.cell? ⟨g1, 4, none⟩ = some (.string ⟨#[]⟩) := q4
        clear q3 q4
        have d0 : w10.cell? ⟨g2, 0, none⟩ = some (.string (strN F)) := (EntAt.cells HX10.out).1
        have d1 : w10.cell? ⟨g2, 1, none⟩ = some (.string (strN g)) := (EntAt.cells HX10.out).2.1
        have d2 : w10.cell? ⟨g2, 2, none⟩ = some (.string (strN u)) := (EntAt.cells HX10.out).2.2.1
        have d3 : w10.cell? ⟨g2, 3, none⟩ = some (.string ⟨#[]⟩) := (EntAt.cells HX10.out).2.2.2.1
        have d4 : w10.cell? ⟨g2, 4, none⟩ = some (.string ⟨#[]⟩) := (EntAt.cells HX10.out).2.2.2.2.1
        have d5 : w10.cell? ⟨g2, 5, none⟩ = some (.int .i64 (at_ : Int)) := (EntAt.cells HX10.out).2.2.2.2.2
        have hlt := HE10.out.lt
        have hlt2 := HX10.out.lt
        clear hsb htb hsl htl hk hj ha hsz htz hFp hFb hFl hJp hJb hJl hJn hwa hai hLp hfit hgb hgl hub hul hNb hNl
        go_wp2
        go_ret
        exact ⟨rfl, HB10.out⟩
      · rw [show decide (g = []) = true by simp [hg]] at eg
        clear hg
        have hn' := hn.symm
        clear hn
        subst hn'
        have HCl2 : Hid (∀ w, MaxLen w → Calls Tryd.prog 6 #[.agg #[.string (strN F), .string (strN s), .string (strN t), .string ⟨#[]⟩, .string ⟨#[]⟩, .int .i64 (at_ : Int)]] w fun r w' => r = .returned (.tuple #[.agg #[.string (strN F), .string (strN u), .string (strN u), .string ⟨#[]⟩, .string ⟨#[]⟩, .int .i64 (at_ : Int)], .int .i64 0]) ∧ Below w.heap.size w w') := HCl.out
        clear HCl
        go_enter Tryd.func3, Tryd.ntmps3
        go_wp2_with fail
        refine Calls.mono HK.out ?_
        rintro r w1 ⟨rfl, hb⟩
        have HB1 : Hid _ := hb
        clear hb
        go_wp2_with fail
        refine Calls.mono (HAk.out _) ?_
        rintro r w2 ⟨rfl, hb⟩
        have HB2 : Hid _ := HB1.out.trans (hb.mono HB1.out.size)
        clear hb HB1
        have HE3 : Hid (EntAt (w2.alloc (.cells #[.string (strN F), .string (strN s), .string (strN t), .string ⟨#[]⟩, .string ⟨#[]⟩, .int .i64 (at_ : Int)] 26)) w2.heap.size ⟨F, s, t, [], [], (at_ : Int)⟩) := EntAt.new w2 ⟨F, s, t, [], [], (at_ : Int)⟩
        have HB3 : Hid (Below W.heap.size W (w2.alloc (.cells #[.string (strN F), .string (strN s), .string (strN t), .string ⟨#[]⟩, .string ⟨#[]⟩, .int .i64 (at_ : Int)] 26))) := HB2.out.alloc HB2.out.size _
        have HG3 : Hid (W.heap.size ≤ w2.heap.size) := HB2.out.size
        go_wp2_with fail
        generalize (w2.alloc (.cells #[.string (strN F), .string (strN s), .string (strN t), .string ⟨#[]⟩, .string ⟨#[]⟩, .int .i64 (at_ : Int)] 26)) = w3 at *
        generalize w2.heap.size = g1 at *
        have HE5 : Hid _ := HE3.out
        have HB5 : Hid _ := HB3.out
        clear HE3 HB3
        have HT5 : Hid (Env w3) := HT0.out.later HB5.out
        refine Calls.mono (HCl2.out _ HT5.out.max) ?_
        rintro r w6 ⟨rfl, hb⟩
        have HE6 : Hid _ := HE5.out.later hb HE5.out.lt
        have HB6 : Hid _ := HB5.out.trans (hb.mono HB5.out.size)
        clear hb HB5 HE5 HT5 HCl2
        have HX7 : Hid (EntAt (w6.alloc (.cells #[.string (strN F), .string (strN u), .string (strN u), .string ⟨#[]⟩, .string ⟨#[]⟩, .int .i64 (at_ : Int)] 26)) w6.heap.size ⟨F, u, u, [], [], (at_ : Int)⟩) := EntAt.new w6 ⟨F, u, u, [], [], (at_ : Int)⟩
        have HE7 : Hid (EntAt (w6.alloc (.cells #[.string (strN F), .string (strN u), .string (strN u), .string ⟨#[]⟩, .string ⟨#[]⟩, .int .i64 (at_ : Int)] 26)) g1 _) := HE6.out.alloc _
        have HB7 : Hid (Below W.heap.size W (w6.alloc (.cells #[.string (strN F), .string (strN u), .string (strN u), .string ⟨#[]⟩, .string ⟨#[]⟩, .int .i64 (at_ : Int)] 26))) := HB6.out.alloc HB6.out.size _
        go_wp2_with fail
        generalize (w6.alloc (.cells #[.string (strN F), .string (strN u), .string (strN u), .string ⟨#[]⟩, .string ⟨#[]⟩, .int .i64 (at_ : Int)] 26)) = w7 at *
        generalize w6.heap.size = g2 at *
        clear HE6 HB6
        refine Calls.mono (HTc.out _) ?_
        rintro r w8 ⟨rfl, hb⟩
        have HE8 : Hid _ := HE7.out.later hb HE7.out.lt
        have HX8 : Hid _ := HX7.out.later hb HX7.out.lt
        have HB8 : Hid _ := HB7.out.trans (hb.mono HB7.out.size)
        clear hb HE7 HX7 HB7
        go_wp2_with fail
        refine Calls.mono (HCu.out _) ?_
        rintro r w9 ⟨rfl, hb⟩
        have HE9 : Hid _ := HE8.out.later hb HE8.out.lt
        have HX9 : Hid _ := HX8.out.later hb HX8.out.lt
        have HB9 : Hid _ := HB8.out.trans (hb.mono HB8.out.size)
        clear hb HE8 HX8 HB8
        obtain ⟨c0, c1, c2, q3, q4, c5⟩ := HE9.out.cells
        have c3 : w9.cell? ⟨g1, 3, none⟩ = some (.string ⟨#[]⟩) := q3
        have c4 : w9.cell? ⟨g1, 4, none⟩ = some (.string ⟨#[]⟩) := q4
        clear q3 q4
        have d0 : w9.cell? ⟨g2, 0, none⟩ = some (.string (strN F)) := (EntAt.cells HX9.out).1
        have d1 : w9.cell? ⟨g2, 1, none⟩ = some (.string (strN u)) := (EntAt.cells HX9.out).2.1
        have d2 : w9.cell? ⟨g2, 2, none⟩ = some (.string (strN u)) := (EntAt.cells HX9.out).2.2.1
        have d3 : w9.cell? ⟨g2, 3, none⟩ = some (.string ⟨#[]⟩) := (EntAt.cells HX9.out).2.2.2.1
        have d4 : w9.cell? ⟨g2, 4, none⟩ = some (.string ⟨#[]⟩) := (EntAt.cells HX9.out).2.2.2.2.1
        have d5 : w9.cell? ⟨g2, 5, none⟩ = some (.int .i64 (at_ : Int)) := (EntAt.cells HX9.out).2.2.2.2.2
        have hlt := HE9.out.lt
        have hlt2 := HX9.out.lt
        go_wp2_with fail
        refine Calls.mono (HRu.out _) ?_
        rintro r w10 ⟨rfl, hb⟩
        have HE10 : Hid _ := HE9.out.later hb HE9.out.lt
        have HX10 : Hid _ := HX9.out.later hb HX9.out.lt
        have HB10 : Hid _ := HB9.out.trans (hb.mono HB9.out.size)
        clear hb HE9 HX9 HB9 c0 c1 c2 c3 c4 c5 d0 d1 d2 d3 d4 d5 hlt hlt2
        obtain ⟨c0, c1, c2, q3, q4, c5⟩ := HE10.out.cells
        have c3 : w10.cell? ⟨g1, 3, none⟩ = some (.string ⟨#[]⟩) := q3
        have c4 : w10.cell? ⟨g1, 4, none⟩ = some (.string ⟨#[]⟩) := q4
        clear q3 q4
        have d0 : w10.cell? ⟨g2, 0, none⟩ = some (.string (strN F)) := (EntAt.cells HX10.out).1
        have d1 : w10.cell? ⟨g2, 1, none⟩ = some (.string (strN u)) := (EntAt.cells HX10.out).2.1
        have d2 : w10.cell? ⟨g2, 2, none⟩ = some (.string (strN u)) := (EntAt.cells HX10.out).2.2.1
        have d3 : w10.cell? ⟨g2, 3, none⟩ = some (.string ⟨#[]⟩) := (EntAt.cells HX10.out).2.2.2.1
        have d4 : w10.cell? ⟨g2, 4, none⟩ = some (.string ⟨#[]⟩) := (EntAt.cells HX10.out).2.2.2.2.1
        have d5 : w10.cell? ⟨g2, 5, none⟩ = some (.int .i64 (at_ : Int)) := (EntAt.cells HX10.out).2.2.2.2.2
        have hlt := HE10.out.lt
        have hlt2 := HX10.out.lt
        clear hsb htb hsl htl hk hj ha hsz htz hFp hFb hFl hJp hJb hJl hJn hwa hai hLp hfit hgb hgl hub hul hNb hNl
        go_wp2
        go_ret
        exact ⟨rfl, HB10.out⟩

set_option maxHeartbeats 16000000 in
theorem entryNames_T (s t : List Nat) (k j at_ : Nat) (W : World) (ht : Env W) (hsb : ∀ c ∈ s, c < 256) (htb : ∀ c ∈ t, c < 256) (hsl : s.length ≤ 900) (htl : t.length ≤ 600) (hk : k < 256) (hj : j < 256) (ha : at_ < 65536) :
    Calls Tryd.prog 3 #[.string (strN s), .string (strN t), .int .u8 (k : Int), .int .u8 (j : Int), .bool true, .int .u16 (at_ : Int)] W fun r W' => r = .returned (.bool true) ∧ Below W.heap.size W W' := by
  have HT0 : Hid _ := ht
  have HK : Hid _ := known_any W ht
  have hsz := strN_size s
  have htz := strN_size t
  have HAk : Hid (∀ w, _) := fun w => seatAddr_any k w hk
  have HAj : Hid (∀ w, _) := fun w => seatAddr_any j w hj
  have hFp := addrs_right _ (seatA5_mem k)
  have hJp := addrs_right _ (seatA5_mem j)
  have hJn := addrs_ne _ (seatA5_mem j)
  obtain ⟨hFb, hFl, _⟩ := addrs_lt _ (seatA5_mem k)
  obtain ⟨hJb, hJl, _⟩ := addrs_lt _ (seatA5_mem j)
  have hwa : IntKind.i64.wrap (at_ : Int) = (at_ : Int) := by rw [IntKind.wrap_i64]; omega
  generalize seatA5 k = F at *
  generalize seatA5 j = J at *
  have hai : (at_ : Int) ≤ 65535 := by omega
  have hLp : EntMath.linkP J = (J, 0) := by unfold EntMath.linkP; rw [if_neg hJn]; exact hJp
  have hcl := clean_named (guid := s) (title := t) (n := (at_ : Int)) hFp hLp (by omega) hai
  have hfit : EFit ⟨F, s, t, J, [], (at_ : Int)⟩ := ⟨hFb, hsb, htb, hJb, by simp, by show F.length ≤ 10000; omega, by show s.length ≤ 10000; omega, by show t.length ≤ 10000; omega, by show J.length ≤ 10000; omega, by simp, by show _ ≤ (at_ : Int); omega, by show (at_ : Int) ≤ _; omega⟩
  have HCl : Hid (∀ w, MaxLen w → _) := fun w ht => entClean_any ⟨F, s, t, J, [], (at_ : Int)⟩ w ht hfit
  have HTc : Hid (∀ w, _) := fun w => clean_any s w hsb (by omega)
  have HCu : Hid (∀ w, _) := fun w => cut_any t 120 w htb (by omega) (by omega)
  have hgb := cleanB_lt s
  have hgl := cleanB_len s
  have hub := EntMath.cutB_lt t 120
  have hul := EntMath.cutB_len t 120
  have hxf := EntMath.clean_any_fit ⟨F, s, t, J, [], (at_ : Int)⟩
  generalize TxtMath.cleanB s = g at *
  generalize TxtMath.cutB t 120 = u at *
  have eg := strN_nil_eq g hgb
  have eu := strN_nil_eq u hub
  have eJ := strN_nil_eq J hJb
  clear ht
  suffices H : ∀ Nm : List Nat, (∀ c ∈ Nm, c < 256) → Nm.length ≤ 10000 → guidOf g J u = Nm → ((g ≠ [] ∧ Nm = g) ∨ (g = [] ∧ Nm = J)) →
      Calls Tryd.prog 3 #[.string (strN s), .string (strN t), .int .u8 (k : Int), .int .u8 (j : Int), .bool true, .int .u16 (at_ : Int)] W fun r W' => r = .returned (.bool true) ∧ Below W.heap.size W W' by
    by_cases hg : g = []
    · exact H J hJb (by omega) (by unfold EntMath.guidOf; rw [if_pos hg, if_neg hJn]) (.inr ⟨hg, rfl⟩)
    · exact H g hgb (by omega) (by unfold EntMath.guidOf; rw [if_neg hg]) (.inl ⟨hg, rfl⟩)
  intro Nm hNb hNl hNm hpath
  rw [hNm] at hcl
  have HRu : Hid (∀ w, _) := fun w => runes_any Nm w hNb (by omega)
  have eN := strN_nil_eq Nm hNb
  have HNm : Hid _ := hNm
  clear hNm
  by_cases hE : Nm = []
  · have hq := hcl.trans (if_pos hE)
    rw [hq] at HCl
    rw [show decide (Nm = []) = true by simp [hE]] at eN
    have HE : Hid _ := hE
    clear hq hcl hE hxf eu eJ
    rcases hpath with ⟨hg, hn⟩ | ⟨hg, hn⟩
    · rw [show decide (g = []) = false by simp [hg]] at eg
      exact absurd (hn.symm.trans HE.out) hg
    · rw [show decide (g = []) = true by simp [hg]] at eg
      exact absurd (hn.symm.trans HE.out) hJn
  · have hq := hcl.trans (if_neg hE)
    rw [show decide (Nm = []) = false by simp [hE]] at eN
    clear hcl hE hxf eu eJ
    generalize (TxtMath.runes Nm).length = n at *
    by_cases hn200 : 200 < n
    · rw [if_pos hn200] at hq
      rw [hq] at HCl
      have hn2 : (200 : Int) < (n : Int) := by omega
      clear hq
      rcases hpath with ⟨hg, hn⟩ | ⟨hg, hn⟩
      · rw [show decide (g = []) = false by simp [hg]] at eg
        clear hg eN
        have hn' := hn.symm
        clear hn
        subst hn'
        have HCl2 : Hid (∀ w, MaxLen w → Calls Tryd.prog 6 #[.agg #[.string (strN F), .string (strN s), .string (strN t), .string (strN J), .string ⟨#[]⟩, .int .i64 (at_ : Int)]] w fun r w' => r = .returned (.tuple #[.agg #[.string ⟨#[]⟩, .string ⟨#[]⟩, .string ⟨#[]⟩, .string ⟨#[]⟩, .string ⟨#[]⟩, .int .i64 0], .int .i64 23]) ∧ Below w.heap.size w w') := HCl.out
        clear HCl
        go_enter Tryd.func3, Tryd.ntmps3
        go_wp2_with fail
        refine Calls.mono HK.out ?_
        rintro r w1 ⟨rfl, hb⟩
        have HB1 : Hid _ := hb
        clear hb
        go_wp2_with fail
        refine Calls.mono (HAk.out _) ?_
        rintro r w2 ⟨rfl, hb⟩
        have HB2 : Hid _ := HB1.out.trans (hb.mono HB1.out.size)
        clear hb HB1
        have HE3 : Hid (EntAt (w2.alloc (.cells #[.string (strN F), .string (strN s), .string (strN t), .string ⟨#[]⟩, .string ⟨#[]⟩, .int .i64 (at_ : Int)] 26)) w2.heap.size ⟨F, s, t, [], [], (at_ : Int)⟩) := EntAt.new w2 ⟨F, s, t, [], [], (at_ : Int)⟩
        have HB3 : Hid (Below W.heap.size W (w2.alloc (.cells #[.string (strN F), .string (strN s), .string (strN t), .string ⟨#[]⟩, .string ⟨#[]⟩, .int .i64 (at_ : Int)] 26))) := HB2.out.alloc HB2.out.size _
        have HG3 : Hid (W.heap.size ≤ w2.heap.size) := HB2.out.size
        go_wp2_with fail
        generalize (w2.alloc (.cells #[.string (strN F), .string (strN s), .string (strN t), .string ⟨#[]⟩, .string ⟨#[]⟩, .int .i64 (at_ : Int)] 26)) = w3 at *
        generalize w2.heap.size = g1 at *
        refine Calls.mono (HAj.out _) ?_
        rintro r w4 ⟨rfl, hb⟩
        have HE4 : Hid _ := HE3.out.later hb HE3.out.lt
        have HB4 : Hid _ := HB3.out.trans (hb.mono HB3.out.size)
        clear hb HB3 HE3
        obtain ⟨c0, c1, c2, c3, q4, c5⟩ := HE4.out.cells
        have c4 : w4.cell? ⟨g1, 4, none⟩ = some (.string ⟨#[]⟩) := q4
        clear q4
        have hf3 := HE4.out.frozen 3
        have hlt4 := HE4.out.lt
        have HE5 : Hid (EntAt (w4.setCell ⟨g1, 3, none⟩ (.string (strN J))) g1 ⟨F, s, t, J, [], (at_ : Int)⟩) := ⟨Arr.set HE4.out.arr 3 _⟩
        have HB5 : Hid (Below W.heap.size W (w4.setCell ⟨g1, 3, none⟩ (.string (strN J)))) := HB4.out.setCell HG3.out _
        go_wp2_with fail
        generalize w4.setCell ⟨g1, 3, none⟩ (.string (strN J)) = w5 at *
        clear c0 c1 c2 c3 c4 c5 hf3 hlt4 HE4 HB4
        have HT5 : Hid (Env w5) := HT0.out.later HB5.out
        refine Calls.mono (HCl2.out _ HT5.out.max) ?_
        rintro r w6 ⟨rfl, hb⟩
        have HE6 : Hid _ := HE5.out.later hb HE5.out.lt
        have HB6 : Hid _ := HB5.out.trans (hb.mono HB5.out.size)
        clear hb HB5 HE5 HT5 HCl2
        have HX7 : Hid (EntAt (w6.alloc (.cells #[.string ⟨#[]⟩, .string ⟨#[]⟩, .string ⟨#[]⟩, .string ⟨#[]⟩, .string ⟨#[]⟩, .int .i64 0] 26)) w6.heap.size EntMath.zero) := EntAt.new w6 EntMath.zero
        have HE7 : Hid (EntAt (w6.alloc (.cells #[.string ⟨#[]⟩, .string ⟨#[]⟩, .string ⟨#[]⟩, .string ⟨#[]⟩, .string ⟨#[]⟩, .int .i64 0] 26)) g1 _) := HE6.out.alloc _
        have HB7 : Hid (Below W.heap.size W (w6.alloc (.cells #[.string ⟨#[]⟩, .string ⟨#[]⟩, .string ⟨#[]⟩, .string ⟨#[]⟩, .string ⟨#[]⟩, .int .i64 0] 26))) := HB6.out.alloc HB6.out.size _
        go_wp2_with fail
        generalize (w6.alloc (.cells #[.string ⟨#[]⟩, .string ⟨#[]⟩, .string ⟨#[]⟩, .string ⟨#[]⟩, .string ⟨#[]⟩, .int .i64 0] 26)) = w7 at *
        generalize w6.heap.size = g2 at *
        clear HE6 HB6
        refine Calls.mono (HTc.out _) ?_
        rintro r w8 ⟨rfl, hb⟩
        have HE8 : Hid _ := HE7.out.later hb HE7.out.lt
        have HX8 : Hid _ := HX7.out.later hb HX7.out.lt
        have HB8 : Hid _ := HB7.out.trans (hb.mono HB7.out.size)
        clear hb HE7 HX7 HB7
        go_wp2_with fail
        refine Calls.mono (HCu.out _) ?_
        rintro r w9 ⟨rfl, hb⟩
        have HE9 : Hid _ := HE8.out.later hb HE8.out.lt
        have HX9 : Hid _ := HX8.out.later hb HX8.out.lt
        have HB9 : Hid _ := HB8.out.trans (hb.mono HB8.out.size)
        clear hb HE8 HX8 HB8
        obtain ⟨c0, c1, c2, q3, q4, c5⟩ := HE9.out.cells
        have c3 : w9.cell? ⟨g1, 3, none⟩ = some (.string (strN J)) := q3
        have c4 : w9.cell? ⟨g1, 4, none⟩ = some (.string ⟨#[]⟩) := q4
        clear q3 q4
        have d0 : w9.cell? ⟨g2, 0, none⟩ = some (.string ⟨#[]⟩) := (EntAt.cells HX9.out).1
        have d1 : w9.cell? ⟨g2, 1, none⟩ = some (.string ⟨#[]⟩) := (EntAt.cells HX9.out).2.1
        have d2 : w9.cell? ⟨g2, 2, none⟩ = some (.string ⟨#[]⟩) := (EntAt.cells HX9.out).2.2.1
        have d3 : w9.cell? ⟨g2, 3, none⟩ = some (.string ⟨#[]⟩) := (EntAt.cells HX9.out).2.2.2.1
        have d4 : w9.cell? ⟨g2, 4, none⟩ = some (.string ⟨#[]⟩) := (EntAt.cells HX9.out).2.2.2.2.1
        have d5 : w9.cell? ⟨g2, 5, none⟩ = some (.int .i64 0) := (EntAt.cells HX9.out).2.2.2.2.2
        have hlt := HE9.out.lt
        have hlt2 := HX9.out.lt
        go_wp2_with fail
        refine Calls.mono (HRu.out _) ?_
        rintro r w10 ⟨rfl, hb⟩
        have HE10 : Hid _ := HE9.out.later hb HE9.out.lt
        have HX10 : Hid _ := HX9.out.later hb HX9.out.lt
        have HB10 : Hid _ := HB9.out.trans (hb.mono HB9.out.size)
        clear hb HE9 HX9 HB9 c0 c1 c2 c3 c4 c5 d0 d1 d2 d3 d4 d5 hlt hlt2
        obtain ⟨c0, c1, c2, q3, q4, c5⟩ := HE10.out.cells
        have c3 : w10.cell? ⟨g1, 3, none⟩ = some (.string (strN J)) := q3
        have c4 : w10.cell? ⟨g1, 4, none⟩ = some (.string ⟨#[]⟩) := q4
        clear q3 q4
        have d0 : w10.cell? ⟨g2, 0, none⟩ = some (.string ⟨#[]⟩) := (EntAt.cells HX10.out).1
        have d1 : w10.cell? ⟨g2, 1, none⟩ = some (.string ⟨#[]⟩) := (EntAt.cells HX10.out).2.1
        have d2 : w10.cell? ⟨g2, 2, none⟩ = some (.string ⟨#[]⟩) := (EntAt.cells HX10.out).2.2.1
        have d3 : w10.cell? ⟨g2, 3, none⟩ = some (.string ⟨#[]⟩) := (EntAt.cells HX10.out).2.2.2.1
        have d4 : w10.cell? ⟨g2, 4, none⟩ = some (.string ⟨#[]⟩) := (EntAt.cells HX10.out).2.2.2.2.1
        have d5 : w10.cell? ⟨g2, 5, none⟩ = some (.int .i64 0) := (EntAt.cells HX10.out).2.2.2.2.2
        have hlt := HE10.out.lt
        have hlt2 := HX10.out.lt
        clear hsb htb hsl htl hk hj ha hsz htz hFp hFb hFl hJp hJb hJl hJn hwa hai hLp hfit hgb hgl hub hul hNb hNl
        go_wp2
        go_ret
        exact ⟨rfl, HB10.out⟩
      · rw [show decide (g = []) = true by simp [hg]] at eg
        clear hg
        have hn' := hn.symm
        clear hn
        subst hn'
        have HCl2 : Hid (∀ w, MaxLen w → Calls Tryd.prog 6 #[.agg #[.string (strN F), .string (strN s), .string (strN t), .string (strN J), .string ⟨#[]⟩, .int .i64 (at_ : Int)]] w fun r w' => r = .returned (.tuple #[.agg #[.string ⟨#[]⟩, .string ⟨#[]⟩, .string ⟨#[]⟩, .string ⟨#[]⟩, .string ⟨#[]⟩, .int .i64 0], .int .i64 23]) ∧ Below w.heap.size w w') := HCl.out
        clear HCl
        go_enter Tryd.func3, Tryd.ntmps3
        go_wp2_with fail
        refine Calls.mono HK.out ?_
        rintro r w1 ⟨rfl, hb⟩
        have HB1 : Hid _ := hb
        clear hb
        go_wp2_with fail
        refine Calls.mono (HAk.out _) ?_
        rintro r w2 ⟨rfl, hb⟩
        have HB2 : Hid _ := HB1.out.trans (hb.mono HB1.out.size)
        clear hb HB1
        have HE3 : Hid (EntAt (w2.alloc (.cells #[.string (strN F), .string (strN s), .string (strN t), .string ⟨#[]⟩, .string ⟨#[]⟩, .int .i64 (at_ : Int)] 26)) w2.heap.size ⟨F, s, t, [], [], (at_ : Int)⟩) := EntAt.new w2 ⟨F, s, t, [], [], (at_ : Int)⟩
        have HB3 : Hid (Below W.heap.size W (w2.alloc (.cells #[.string (strN F), .string (strN s), .string (strN t), .string ⟨#[]⟩, .string ⟨#[]⟩, .int .i64 (at_ : Int)] 26))) := HB2.out.alloc HB2.out.size _
        have HG3 : Hid (W.heap.size ≤ w2.heap.size) := HB2.out.size
        go_wp2_with fail
        generalize (w2.alloc (.cells #[.string (strN F), .string (strN s), .string (strN t), .string ⟨#[]⟩, .string ⟨#[]⟩, .int .i64 (at_ : Int)] 26)) = w3 at *
        generalize w2.heap.size = g1 at *
        refine Calls.mono (HAj.out _) ?_
        rintro r w4 ⟨rfl, hb⟩
        have HE4 : Hid _ := HE3.out.later hb HE3.out.lt
        have HB4 : Hid _ := HB3.out.trans (hb.mono HB3.out.size)
        clear hb HB3 HE3
        obtain ⟨c0, c1, c2, c3, q4, c5⟩ := HE4.out.cells
        have c4 : w4.cell? ⟨g1, 4, none⟩ = some (.string ⟨#[]⟩) := q4
        clear q4
        have hf3 := HE4.out.frozen 3
        have hlt4 := HE4.out.lt
        have HE5 : Hid (EntAt (w4.setCell ⟨g1, 3, none⟩ (.string (strN J))) g1 ⟨F, s, t, J, [], (at_ : Int)⟩) := ⟨Arr.set HE4.out.arr 3 _⟩
        have HB5 : Hid (Below W.heap.size W (w4.setCell ⟨g1, 3, none⟩ (.string (strN J)))) := HB4.out.setCell HG3.out _
        go_wp2_with fail
        generalize w4.setCell ⟨g1, 3, none⟩ (.string (strN J)) = w5 at *
        clear c0 c1 c2 c3 c4 c5 hf3 hlt4 HE4 HB4
        have HT5 : Hid (Env w5) := HT0.out.later HB5.out
        refine Calls.mono (HCl2.out _ HT5.out.max) ?_
        rintro r w6 ⟨rfl, hb⟩
        have HE6 : Hid _ := HE5.out.later hb HE5.out.lt
        have HB6 : Hid _ := HB5.out.trans (hb.mono HB5.out.size)
        clear hb HB5 HE5 HT5 HCl2
        have HX7 : Hid (EntAt (w6.alloc (.cells #[.string ⟨#[]⟩, .string ⟨#[]⟩, .string ⟨#[]⟩, .string ⟨#[]⟩, .string ⟨#[]⟩, .int .i64 0] 26)) w6.heap.size EntMath.zero) := EntAt.new w6 EntMath.zero
        have HE7 : Hid (EntAt (w6.alloc (.cells #[.string ⟨#[]⟩, .string ⟨#[]⟩, .string ⟨#[]⟩, .string ⟨#[]⟩, .string ⟨#[]⟩, .int .i64 0] 26)) g1 _) := HE6.out.alloc _
        have HB7 : Hid (Below W.heap.size W (w6.alloc (.cells #[.string ⟨#[]⟩, .string ⟨#[]⟩, .string ⟨#[]⟩, .string ⟨#[]⟩, .string ⟨#[]⟩, .int .i64 0] 26))) := HB6.out.alloc HB6.out.size _
        go_wp2_with fail
        generalize (w6.alloc (.cells #[.string ⟨#[]⟩, .string ⟨#[]⟩, .string ⟨#[]⟩, .string ⟨#[]⟩, .string ⟨#[]⟩, .int .i64 0] 26)) = w7 at *
        generalize w6.heap.size = g2 at *
        clear HE6 HB6
        refine Calls.mono (HTc.out _) ?_
        rintro r w8 ⟨rfl, hb⟩
        have HE8 : Hid _ := HE7.out.later hb HE7.out.lt
        have HX8 : Hid _ := HX7.out.later hb HX7.out.lt
        have HB8 : Hid _ := HB7.out.trans (hb.mono HB7.out.size)
        clear hb HE7 HX7 HB7
        go_wp2_with fail
        refine Calls.mono (HCu.out _) ?_
        rintro r w9 ⟨rfl, hb⟩
        have HE9 : Hid _ := HE8.out.later hb HE8.out.lt
        have HX9 : Hid _ := HX8.out.later hb HX8.out.lt
        have HB9 : Hid _ := HB8.out.trans (hb.mono HB8.out.size)
        clear hb HE8 HX8 HB8
        obtain ⟨c0, c1, c2, q3, q4, c5⟩ := HE9.out.cells
        have c3 : w9.cell? ⟨g1, 3, none⟩ = some (.string (strN J)) := q3
        have c4 : w9.cell? ⟨g1, 4, none⟩ = some (.string ⟨#[]⟩) := q4
        clear q3 q4
        have d0 : w9.cell? ⟨g2, 0, none⟩ = some (.string ⟨#[]⟩) := (EntAt.cells HX9.out).1
        have d1 : w9.cell? ⟨g2, 1, none⟩ = some (.string ⟨#[]⟩) := (EntAt.cells HX9.out).2.1
        have d2 : w9.cell? ⟨g2, 2, none⟩ = some (.string ⟨#[]⟩) := (EntAt.cells HX9.out).2.2.1
        have d3 : w9.cell? ⟨g2, 3, none⟩ = some (.string ⟨#[]⟩) := (EntAt.cells HX9.out).2.2.2.1
        have d4 : w9.cell? ⟨g2, 4, none⟩ = some (.string ⟨#[]⟩) := (EntAt.cells HX9.out).2.2.2.2.1
        have d5 : w9.cell? ⟨g2, 5, none⟩ = some (.int .i64 0) := (EntAt.cells HX9.out).2.2.2.2.2
        have hlt := HE9.out.lt
        have hlt2 := HX9.out.lt
        go_wp2_with fail
        refine Calls.mono (HRu.out _) ?_
        rintro r w10 ⟨rfl, hb⟩
        have HE10 : Hid _ := HE9.out.later hb HE9.out.lt
        have HX10 : Hid _ := HX9.out.later hb HX9.out.lt
        have HB10 : Hid _ := HB9.out.trans (hb.mono HB9.out.size)
        clear hb HE9 HX9 HB9 c0 c1 c2 c3 c4 c5 d0 d1 d2 d3 d4 d5 hlt hlt2
        obtain ⟨c0, c1, c2, q3, q4, c5⟩ := HE10.out.cells
        have c3 : w10.cell? ⟨g1, 3, none⟩ = some (.string (strN J)) := q3
        have c4 : w10.cell? ⟨g1, 4, none⟩ = some (.string ⟨#[]⟩) := q4
        clear q3 q4
        have d0 : w10.cell? ⟨g2, 0, none⟩ = some (.string ⟨#[]⟩) := (EntAt.cells HX10.out).1
        have d1 : w10.cell? ⟨g2, 1, none⟩ = some (.string ⟨#[]⟩) := (EntAt.cells HX10.out).2.1
        have d2 : w10.cell? ⟨g2, 2, none⟩ = some (.string ⟨#[]⟩) := (EntAt.cells HX10.out).2.2.1
        have d3 : w10.cell? ⟨g2, 3, none⟩ = some (.string ⟨#[]⟩) := (EntAt.cells HX10.out).2.2.2.1
        have d4 : w10.cell? ⟨g2, 4, none⟩ = some (.string ⟨#[]⟩) := (EntAt.cells HX10.out).2.2.2.2.1
        have d5 : w10.cell? ⟨g2, 5, none⟩ = some (.int .i64 0) := (EntAt.cells HX10.out).2.2.2.2.2
        have hlt := HE10.out.lt
        have hlt2 := HX10.out.lt
        clear hsb htb hsl htl hk hj ha hsz htz hFp hFb hFl hJp hJb hJl hJn hwa hai hLp hfit hgb hgl hub hul hNb hNl
        go_wp2
        go_ret
        exact ⟨rfl, HB10.out⟩
    · rw [if_neg hn200] at hq
      rw [hq] at HCl
      have hn2 : (n : Int) ≤ 200 := by omega
      clear hq hn200
      rcases hpath with ⟨hg, hn⟩ | ⟨hg, hn⟩
      · rw [show decide (g = []) = false by simp [hg]] at eg
        clear hg eN
        have hn' := hn.symm
        clear hn
        subst hn'
        have HCl2 : Hid (∀ w, MaxLen w → Calls Tryd.prog 6 #[.agg #[.string (strN F), .string (strN s), .string (strN t), .string (strN J), .string ⟨#[]⟩, .int .i64 (at_ : Int)]] w fun r w' => r = .returned (.tuple #[.agg #[.string (strN F), .string (strN g), .string (strN u), .string (strN J), .string ⟨#[]⟩, .int .i64 (at_ : Int)], .int .i64 0]) ∧ Below w.heap.size w w') := HCl.out
        clear HCl
        go_enter Tryd.func3, Tryd.ntmps3
        go_wp2_with fail
        refine Calls.mono HK.out ?_
        rintro r w1 ⟨rfl, hb⟩
        have HB1 : Hid _ := hb
        clear hb
        go_wp2_with fail
        refine Calls.mono (HAk.out _) ?_
        rintro r w2 ⟨rfl, hb⟩
        have HB2 : Hid _ := HB1.out.trans (hb.mono HB1.out.size)
        clear hb HB1
        have HE3 : Hid (EntAt (w2.alloc (.cells #[.string (strN F), .string (strN s), .string (strN t), .string ⟨#[]⟩, .string ⟨#[]⟩, .int .i64 (at_ : Int)] 26)) w2.heap.size ⟨F, s, t, [], [], (at_ : Int)⟩) := EntAt.new w2 ⟨F, s, t, [], [], (at_ : Int)⟩
        have HB3 : Hid (Below W.heap.size W (w2.alloc (.cells #[.string (strN F), .string (strN s), .string (strN t), .string ⟨#[]⟩, .string ⟨#[]⟩, .int .i64 (at_ : Int)] 26))) := HB2.out.alloc HB2.out.size _
        have HG3 : Hid (W.heap.size ≤ w2.heap.size) := HB2.out.size
        go_wp2_with fail
        generalize (w2.alloc (.cells #[.string (strN F), .string (strN s), .string (strN t), .string ⟨#[]⟩, .string ⟨#[]⟩, .int .i64 (at_ : Int)] 26)) = w3 at *
        generalize w2.heap.size = g1 at *
        refine Calls.mono (HAj.out _) ?_
        rintro r w4 ⟨rfl, hb⟩
        have HE4 : Hid _ := HE3.out.later hb HE3.out.lt
        have HB4 : Hid _ := HB3.out.trans (hb.mono HB3.out.size)
        clear hb HB3 HE3
        obtain ⟨c0, c1, c2, c3, q4, c5⟩ := HE4.out.cells
        have c4 : w4.cell? ⟨g1, 4, none⟩ = some (.string ⟨#[]⟩) := q4
        clear q4
        have hf3 := HE4.out.frozen 3
        have hlt4 := HE4.out.lt
        have HE5 : Hid (EntAt (w4.setCell ⟨g1, 3, none⟩ (.string (strN J))) g1 ⟨F, s, t, J, [], (at_ : Int)⟩) := ⟨Arr.set HE4.out.arr 3 _⟩
        have HB5 : Hid (Below W.heap.size W (w4.setCell ⟨g1, 3, none⟩ (.string (strN J)))) := HB4.out.setCell HG3.out _
        go_wp2_with fail
        generalize w4.setCell ⟨g1, 3, none⟩ (.string (strN J)) = w5 at *
        clear c0 c1 c2 c3 c4 c5 hf3 hlt4 HE4 HB4
        have HT5 : Hid (Env w5) := HT0.out.later HB5.out
        refine Calls.mono (HCl2.out _ HT5.out.max) ?_
        rintro r w6 ⟨rfl, hb⟩
        have HE6 : Hid _ := HE5.out.later hb HE5.out.lt
        have HB6 : Hid _ := HB5.out.trans (hb.mono HB5.out.size)
        clear hb HB5 HE5 HT5 HCl2
        have HX7 : Hid (EntAt (w6.alloc (.cells #[.string (strN F), .string (strN g), .string (strN u), .string (strN J), .string ⟨#[]⟩, .int .i64 (at_ : Int)] 26)) w6.heap.size ⟨F, g, u, J, [], (at_ : Int)⟩) := EntAt.new w6 ⟨F, g, u, J, [], (at_ : Int)⟩
        have HE7 : Hid (EntAt (w6.alloc (.cells #[.string (strN F), .string (strN g), .string (strN u), .string (strN J), .string ⟨#[]⟩, .int .i64 (at_ : Int)] 26)) g1 _) := HE6.out.alloc _
        have HB7 : Hid (Below W.heap.size W (w6.alloc (.cells #[.string (strN F), .string (strN g), .string (strN u), .string (strN J), .string ⟨#[]⟩, .int .i64 (at_ : Int)] 26))) := HB6.out.alloc HB6.out.size _
        go_wp2_with fail
        generalize (w6.alloc (.cells #[.string (strN F), .string (strN g), .string (strN u), .string (strN J), .string ⟨#[]⟩, .int .i64 (at_ : Int)] 26)) = w7 at *
        generalize w6.heap.size = g2 at *
        clear HE6 HB6
        refine Calls.mono (HTc.out _) ?_
        rintro r w8 ⟨rfl, hb⟩
        have HE8 : Hid _ := HE7.out.later hb HE7.out.lt
        have HX8 : Hid _ := HX7.out.later hb HX7.out.lt
        have HB8 : Hid _ := HB7.out.trans (hb.mono HB7.out.size)
        clear hb HE7 HX7 HB7
        go_wp2_with fail
        refine Calls.mono (HCu.out _) ?_
        rintro r w9 ⟨rfl, hb⟩
        have HE9 : Hid _ := HE8.out.later hb HE8.out.lt
        have HX9 : Hid _ := HX8.out.later hb HX8.out.lt
        have HB9 : Hid _ := HB8.out.trans (hb.mono HB8.out.size)
        clear hb HE8 HX8 HB8
        obtain ⟨c0, c1, c2, q3, q4, c5⟩ := HE9.out.cells
        have c3 : w9.cell? ⟨g1, 3, none⟩ = some (.string (strN J)) := q3
        have c4 : w9.cell? ⟨g1, 4, none⟩ = some (.string ⟨#[]⟩) := q4
        clear q3 q4
        have d0 : w9.cell? ⟨g2, 0, none⟩ = some (.string (strN F)) := (EntAt.cells HX9.out).1
        have d1 : w9.cell? ⟨g2, 1, none⟩ = some (.string (strN g)) := (EntAt.cells HX9.out).2.1
        have d2 : w9.cell? ⟨g2, 2, none⟩ = some (.string (strN u)) := (EntAt.cells HX9.out).2.2.1
        have d3 : w9.cell? ⟨g2, 3, none⟩ = some (.string (strN J)) := (EntAt.cells HX9.out).2.2.2.1
        have d4 : w9.cell? ⟨g2, 4, none⟩ = some (.string ⟨#[]⟩) := (EntAt.cells HX9.out).2.2.2.2.1
        have d5 : w9.cell? ⟨g2, 5, none⟩ = some (.int .i64 (at_ : Int)) := (EntAt.cells HX9.out).2.2.2.2.2
        have hlt := HE9.out.lt
        have hlt2 := HX9.out.lt
        go_wp2_with fail
        refine Calls.mono (HRu.out _) ?_
        rintro r w10 ⟨rfl, hb⟩
        have HE10 : Hid _ := HE9.out.later hb HE9.out.lt
        have HX10 : Hid _ := HX9.out.later hb HX9.out.lt
        have HB10 : Hid _ := HB9.out.trans (hb.mono HB9.out.size)
        clear hb HE9 HX9 HB9 c0 c1 c2 c3 c4 c5 d0 d1 d2 d3 d4 d5 hlt hlt2
        obtain ⟨c0, c1, c2, q3, q4, c5⟩ := HE10.out.cells
        have c3 : w10.cell? ⟨g1, 3, none⟩ = some (.string (strN J)) := q3
        have c4 : w10.cell? ⟨g1, 4, none⟩ = some (.string ⟨#[]⟩) := q4
        clear q3 q4
        have d0 : w10.cell? ⟨g2, 0, none⟩ = some (.string (strN F)) := (EntAt.cells HX10.out).1
        have d1 : w10.cell? ⟨g2, 1, none⟩ = some (.string (strN g)) := (EntAt.cells HX10.out).2.1
        have d2 : w10.cell? ⟨g2, 2, none⟩ = some (.string (strN u)) := (EntAt.cells HX10.out).2.2.1
        have d3 : w10.cell? ⟨g2, 3, none⟩ = some (.string (strN J)) := (EntAt.cells HX10.out).2.2.2.1
        have d4 : w10.cell? ⟨g2, 4, none⟩ = some (.string ⟨#[]⟩) := (EntAt.cells HX10.out).2.2.2.2.1
        have d5 : w10.cell? ⟨g2, 5, none⟩ = some (.int .i64 (at_ : Int)) := (EntAt.cells HX10.out).2.2.2.2.2
        have hlt := HE10.out.lt
        have hlt2 := HX10.out.lt
        clear hsb htb hsl htl hk hj ha hsz htz hFp hFb hFl hJp hJb hJl hJn hwa hai hLp hfit hgb hgl hub hul hNb hNl
        go_wp2
        go_ret
        exact ⟨rfl, HB10.out⟩
      · rw [show decide (g = []) = true by simp [hg]] at eg
        clear hg
        have hn' := hn.symm
        clear hn
        subst hn'
        have HCl2 : Hid (∀ w, MaxLen w → Calls Tryd.prog 6 #[.agg #[.string (strN F), .string (strN s), .string (strN t), .string (strN J), .string ⟨#[]⟩, .int .i64 (at_ : Int)]] w fun r w' => r = .returned (.tuple #[.agg #[.string (strN F), .string (strN J), .string (strN u), .string (strN J), .string ⟨#[]⟩, .int .i64 (at_ : Int)], .int .i64 0]) ∧ Below w.heap.size w w') := HCl.out
        clear HCl
        go_enter Tryd.func3, Tryd.ntmps3
        go_wp2_with fail
        refine Calls.mono HK.out ?_
        rintro r w1 ⟨rfl, hb⟩
        have HB1 : Hid _ := hb
        clear hb
        go_wp2_with fail
        refine Calls.mono (HAk.out _) ?_
        rintro r w2 ⟨rfl, hb⟩
        have HB2 : Hid _ := HB1.out.trans (hb.mono HB1.out.size)
        clear hb HB1
        have HE3 : Hid (EntAt (w2.alloc (.cells #[.string (strN F), .string (strN s), .string (strN t), .string ⟨#[]⟩, .string ⟨#[]⟩, .int .i64 (at_ : Int)] 26)) w2.heap.size ⟨F, s, t, [], [], (at_ : Int)⟩) := EntAt.new w2 ⟨F, s, t, [], [], (at_ : Int)⟩
        have HB3 : Hid (Below W.heap.size W (w2.alloc (.cells #[.string (strN F), .string (strN s), .string (strN t), .string ⟨#[]⟩, .string ⟨#[]⟩, .int .i64 (at_ : Int)] 26))) := HB2.out.alloc HB2.out.size _
        have HG3 : Hid (W.heap.size ≤ w2.heap.size) := HB2.out.size
        go_wp2_with fail
        generalize (w2.alloc (.cells #[.string (strN F), .string (strN s), .string (strN t), .string ⟨#[]⟩, .string ⟨#[]⟩, .int .i64 (at_ : Int)] 26)) = w3 at *
        generalize w2.heap.size = g1 at *
        refine Calls.mono (HAj.out _) ?_
        rintro r w4 ⟨rfl, hb⟩
        have HE4 : Hid _ := HE3.out.later hb HE3.out.lt
        have HB4 : Hid _ := HB3.out.trans (hb.mono HB3.out.size)
        clear hb HB3 HE3
        obtain ⟨c0, c1, c2, c3, q4, c5⟩ := HE4.out.cells
        have c4 : w4.cell? ⟨g1, 4, none⟩ = some (.string ⟨#[]⟩) := q4
        clear q4
        have hf3 := HE4.out.frozen 3
        have hlt4 := HE4.out.lt
        have HE5 : Hid (EntAt (w4.setCell ⟨g1, 3, none⟩ (.string (strN J))) g1 ⟨F, s, t, J, [], (at_ : Int)⟩) := ⟨Arr.set HE4.out.arr 3 _⟩
        have HB5 : Hid (Below W.heap.size W (w4.setCell ⟨g1, 3, none⟩ (.string (strN J)))) := HB4.out.setCell HG3.out _
        go_wp2_with fail
        generalize w4.setCell ⟨g1, 3, none⟩ (.string (strN J)) = w5 at *
        clear c0 c1 c2 c3 c4 c5 hf3 hlt4 HE4 HB4
        have HT5 : Hid (Env w5) := HT0.out.later HB5.out
        refine Calls.mono (HCl2.out _ HT5.out.max) ?_
        rintro r w6 ⟨rfl, hb⟩
        have HE6 : Hid _ := HE5.out.later hb HE5.out.lt
        have HB6 : Hid _ := HB5.out.trans (hb.mono HB5.out.size)
        clear hb HB5 HE5 HT5 HCl2
        have HX7 : Hid (EntAt (w6.alloc (.cells #[.string (strN F), .string (strN J), .string (strN u), .string (strN J), .string ⟨#[]⟩, .int .i64 (at_ : Int)] 26)) w6.heap.size ⟨F, J, u, J, [], (at_ : Int)⟩) := EntAt.new w6 ⟨F, J, u, J, [], (at_ : Int)⟩
        have HE7 : Hid (EntAt (w6.alloc (.cells #[.string (strN F), .string (strN J), .string (strN u), .string (strN J), .string ⟨#[]⟩, .int .i64 (at_ : Int)] 26)) g1 _) := HE6.out.alloc _
        have HB7 : Hid (Below W.heap.size W (w6.alloc (.cells #[.string (strN F), .string (strN J), .string (strN u), .string (strN J), .string ⟨#[]⟩, .int .i64 (at_ : Int)] 26))) := HB6.out.alloc HB6.out.size _
        go_wp2_with fail
        generalize (w6.alloc (.cells #[.string (strN F), .string (strN J), .string (strN u), .string (strN J), .string ⟨#[]⟩, .int .i64 (at_ : Int)] 26)) = w7 at *
        generalize w6.heap.size = g2 at *
        clear HE6 HB6
        refine Calls.mono (HTc.out _) ?_
        rintro r w8 ⟨rfl, hb⟩
        have HE8 : Hid _ := HE7.out.later hb HE7.out.lt
        have HX8 : Hid _ := HX7.out.later hb HX7.out.lt
        have HB8 : Hid _ := HB7.out.trans (hb.mono HB7.out.size)
        clear hb HE7 HX7 HB7
        go_wp2_with fail
        refine Calls.mono (HCu.out _) ?_
        rintro r w9 ⟨rfl, hb⟩
        have HE9 : Hid _ := HE8.out.later hb HE8.out.lt
        have HX9 : Hid _ := HX8.out.later hb HX8.out.lt
        have HB9 : Hid _ := HB8.out.trans (hb.mono HB8.out.size)
        clear hb HE8 HX8 HB8
        obtain ⟨c0, c1, c2, q3, q4, c5⟩ := HE9.out.cells
        have c3 : w9.cell? ⟨g1, 3, none⟩ = some (.string (strN J)) := q3
        have c4 : w9.cell? ⟨g1, 4, none⟩ = some (.string ⟨#[]⟩) := q4
        clear q3 q4
        have d0 : w9.cell? ⟨g2, 0, none⟩ = some (.string (strN F)) := (EntAt.cells HX9.out).1
        have d1 : w9.cell? ⟨g2, 1, none⟩ = some (.string (strN J)) := (EntAt.cells HX9.out).2.1
        have d2 : w9.cell? ⟨g2, 2, none⟩ = some (.string (strN u)) := (EntAt.cells HX9.out).2.2.1
        have d3 : w9.cell? ⟨g2, 3, none⟩ = some (.string (strN J)) := (EntAt.cells HX9.out).2.2.2.1
        have d4 : w9.cell? ⟨g2, 4, none⟩ = some (.string ⟨#[]⟩) := (EntAt.cells HX9.out).2.2.2.2.1
        have d5 : w9.cell? ⟨g2, 5, none⟩ = some (.int .i64 (at_ : Int)) := (EntAt.cells HX9.out).2.2.2.2.2
        have hlt := HE9.out.lt
        have hlt2 := HX9.out.lt
        go_wp2_with fail
        refine Calls.mono (HRu.out _) ?_
        rintro r w10 ⟨rfl, hb⟩
        have HE10 : Hid _ := HE9.out.later hb HE9.out.lt
        have HX10 : Hid _ := HX9.out.later hb HX9.out.lt
        have HB10 : Hid _ := HB9.out.trans (hb.mono HB9.out.size)
        clear hb HE9 HX9 HB9 c0 c1 c2 c3 c4 c5 d0 d1 d2 d3 d4 d5 hlt hlt2
        obtain ⟨c0, c1, c2, q3, q4, c5⟩ := HE10.out.cells
        have c3 : w10.cell? ⟨g1, 3, none⟩ = some (.string (strN J)) := q3
        have c4 : w10.cell? ⟨g1, 4, none⟩ = some (.string ⟨#[]⟩) := q4
        clear q3 q4
        have d0 : w10.cell? ⟨g2, 0, none⟩ = some (.string (strN F)) := (EntAt.cells HX10.out).1
        have d1 : w10.cell? ⟨g2, 1, none⟩ = some (.string (strN J)) := (EntAt.cells HX10.out).2.1
        have d2 : w10.cell? ⟨g2, 2, none⟩ = some (.string (strN u)) := (EntAt.cells HX10.out).2.2.1
        have d3 : w10.cell? ⟨g2, 3, none⟩ = some (.string (strN J)) := (EntAt.cells HX10.out).2.2.2.1
        have d4 : w10.cell? ⟨g2, 4, none⟩ = some (.string ⟨#[]⟩) := (EntAt.cells HX10.out).2.2.2.2.1
        have d5 : w10.cell? ⟨g2, 5, none⟩ = some (.int .i64 (at_ : Int)) := (EntAt.cells HX10.out).2.2.2.2.2
        have hlt := HE10.out.lt
        have hlt2 := HX10.out.lt
        clear hsb htb hsl htl hk hj ha hsz htz hFp hFb hFl hJp hJb hJl hJn hwa hai hLp hfit hgb hgl hub hul hNb hNl
        go_wp2
        go_ret
        exact ⟨rfl, HB10.out⟩

theorem entryNames_walk (s0 s1 : ByteArray) (n2 n3 : Int) (b4 : Bool) (n5 : Int) (W : World) (ht : Env W) (hs0 : s0.size ≤ 140737488355328) (hs1 : s1.size ≤ 140737488355328) (w2 : (Lit.int .u8 n2).wf = true) (w3 : (Lit.int .u8 n3).wf = true) (w5 : (Lit.int .u16 n5).wf = true) :
    Calls Tryd.prog 3 #[.string s0, .string s1, .int .u8 n2, .int .u8 n3, .bool b4, .int .u16 n5] W fun r W' => r = .returned (.bool true) ∧ Below W.heap.size W W' := by
  obtain ⟨s, hsb, rfl⟩ := any_str s0
  obtain ⟨t, htb, rfl⟩ := any_str s1
  have hb2 := bounds_u8 w2
  have hb3 := bounds_u8 w3
  have hb5 := bounds_u16 w5
  obtain ⟨k, rfl⟩ : ∃ n : Nat, n2 = (n : Int) := ⟨n2.toNat, by omega⟩
  obtain ⟨j, rfl⟩ : ∃ n : Nat, n3 = (n : Int) := ⟨n3.toNat, by omega⟩
  obtain ⟨a, rfl⟩ : ∃ n : Nat, n5 = (n : Int) := ⟨n5.toNat, by omega⟩
  by_cases hbig : s.length ≤ 900 ∧ t.length ≤ 600
  · cases b4 with
    | false => exact entryNames_F s t k j a W ht hsb htb hbig.1 hbig.2 (by omega) (by omega) (by omega)
    | true => exact entryNames_T s t k j a W ht hsb htb hbig.1 hbig.2 (by omega) (by omega) (by omega)
  · have HK : Hid _ := known_any W ht
    have hsz := strN_size s
    have htz := strN_size t
    clear ht hb2 hb3 hb5 w2 w3 w5 hs0 hs1
    by_cases h9 : 900 < s.length
    · have h9i : (900 : Int) < (s.length : Int) := by omega
      go_enter Tryd.func3, Tryd.ntmps3
      go_wp2_with fail
      refine Calls.mono HK.out ?_
      rintro r w1 ⟨rfl, hb⟩
      go_wp2
      go_ret
      exact ⟨rfl, hb⟩
    · have h9i : (s.length : Int) ≤ 900 := by omega
      have h6i : (600 : Int) < (t.length : Int) := by omega
      go_enter Tryd.func3, Tryd.ntmps3
      go_wp2_with fail
      refine Calls.mono HK.out ?_
      rintro r w1 ⟨rfl, hb⟩
      go_wp2
      go_ret
      exact ⟨rfl, hb⟩
end Go.Proofs.YtccnokolfjkgcaaDoor

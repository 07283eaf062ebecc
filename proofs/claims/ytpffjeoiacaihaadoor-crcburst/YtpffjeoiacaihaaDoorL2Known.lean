/-
  Walk of newsreellaw2.known: it answers true.
-/
import Derived.Test.YtpffjeoiacaihaaDoorFnCrcOpen
import Derived.Lib.SlBytesConst
namespace Go.Proofs.YtpffjeoiacaihaaDoor
open Go.RowKit NumMath
set_option maxRecDepth 100000
set_option linter.unusedVariables false
set_option linter.unusedSimpArgs false

/-- A literal's row, with whatever mark behind it. -/
theorem lit_rowM (w : World) (k : IntKind) (l : List Int) (t : TypeId) (mk : Nat × Nat) (g : Nat) (hg : g = w.heap.size) : Row k (w.alloc (.cells (l.map (Value.int k)).toArray t mk)) (some ⟨g, 0, none⟩) l := by
  refine .inr ⟨g, 0, rfl, fun i hi => ?_⟩
  rw [Nat.zero_add]
  obtain ⟨m1, m2⟩ := mk
  subst hg
  rw [World.cell?_alloc_mark]
  simp [hi]

theorem conv_second (w : World) (o : Obj) (C : Array Value) (n c : Nat) :
    (convert 24 24 (.slice (some ⟨w.heap.size + 1, 0, none⟩) n c)).run Tryd.prog ((w.alloc o).alloc (.cells C 5)) = .ok (.slice (some ⟨w.heap.size + 1, 0, none⟩) n c) ((w.alloc o).alloc (.cells C 5 (C.size, C.size + 1))) := by
  have := Lib.run_convert_bytes_const (P := Tryd.prog) (w.alloc o) 24 5 C n c Tryd.underlying24 Tryd.underlying5
  have hz : (w.alloc o).heap.size = w.heap.size + 1 := by simp
  rw [hz] at this
  exact this

theorem seal_open (zs : List Int) (h : ∀ c ∈ zs, 0 ≤ c ∧ c ≤ 255) : openB (sealL zs) = true ∧ opened (sealL zs) = zs := by
  have hl := sealL_len zs
  have hc := crcOf_lt h
  have ht : (sealL zs).take ((sealL zs).length - 4) = zs := by rw [hl, Nat.add_sub_cancel]; unfold sealL; exact List.take_left
  have hd : (sealL zs).drop ((sealL zs).length - 4) = fixL 4 (crcOf zs : Nat) := by rw [hl, Nat.add_sub_cancel]; unfold sealL; exact List.drop_left
  have ho : openB (sealL zs) = true := by
    unfold openB openQ
    rw [ht, hd, big_fix 4 _ (by omega), hl]
    have h4 : (256 : Int) ^ 4 = 4294967296 := by decide
    rw [h4, Int.emod_eq_of_lt (by omega) (by omega)]
    simp
  exact ⟨ho, by rw [opened_yes ho, ht]⟩

theorem crc_known : crcOf [49, 50, 51, 52, 53, 54, 55, 56, 57] = 3421780262 := by decide +kernel
theorem news_str : (strOfNums [110, 101, 119, 115]).toList = [110, 101, 119, 115] := by decide +kernel

set_option maxHeartbeats 800000 in
theorem known2_any (w : World) (ht : Tab w) : Calls Tryd.prog 15 #[] w fun e w' => e = .returned (.bool true) ∧ Below w.heap.size w w' := by
  have kc := fun (w : World) (C : Array Value) (n c : Nat) => Lib.run_convert_bytes_const (P := Tryd.prog) w 24 5 C n c Tryd.underlying24 Tryd.underlying5
  have kc2 := conv_second
  have hso := seal_open [110, 101, 119, 115] (by decide)
  go_enter Tryd.func15, Tryd.ntmps15
  go_wp2_with fail
  refine (crcSeal_any (some ⟨w.heap.size, 0, none⟩) [110, 101, 119, 115] 4 _ (ht.alloc _) (by exact lit_rowM w .u8 [110, 101, 119, 115] 5 (4, 5) _ rfl) (by decide) (by decide) (by decide) (by intro h; cases h) (by decide)).mono ?_
  rintro e w1 ⟨v1, rfl, ⟨a1, c1, rfl, hr1, hb1, hc1, hm1, hn1⟩, hbel1⟩
  have hB1 : Below w.heap.size w w1 := ((Below.refl _ _).alloc (Nat.le_refl _) _).trans (hbel1.mono (by simp))
  clear hbel1
  go_wp2_with fail
  refine (crcOpen_any a1 (sealL [110, 101, 119, 115]) c1 w1 (ht.later hB1) hr1 hb1 hc1 hm1 hn1 (by rw [sealL_len]; decide)).mono ?_
  rw [hso.1, hso.2]
  rintro e w2 ⟨v2, rfl, ⟨a2, c2, rfl, hr2, hb2, hc2, hm2, hn2⟩, hbel2⟩
  have hB2 : Below w.heap.size w w2 := hB1.trans (hbel2.mono hB1.size)
  clear hbel2 hr1 hB1 hso
  go_wp2_with fail
  have hW : ∀ o, Below w2.heap.size w2 (w2.alloc o) := fun o => (Below.refl _ _).alloc (Nat.le_refl _) _
  refine (crcSum_any (some ⟨w2.heap.size + 2, 0, none⟩) [⟨some ⟨w2.heap.size, 0, none⟩, [49, 50, 51, 52], 4⟩, ⟨some ⟨w2.heap.size + 1, 0, none⟩, [53, 54, 55, 56, 57], 5⟩] 2 _ ((((ht.later hB2).alloc _).alloc _).alloc _) (by
    refine lit_parts ((w2.alloc (.cells ([49, 50, 51, 52].map (Value.int .u8)).toArray 5 (4, 5))).alloc (.cells ([53, 54, 55, 56, 57].map (Value.int .u8)).toArray 5 (5, 6))) [⟨some ⟨w2.heap.size, 0, none⟩, [49, 50, 51, 52], 4⟩, ⟨some ⟨w2.heap.size + 1, 0, none⟩, [53, 54, 55, 56, 57], 5⟩] 24 _ (by simp) ?_
    intro p hp
    simp at hp
    rcases hp with rfl | rfl
    · exact part_ok ((lit_rowM w2 .u8 [49, 50, 51, 52] 5 (4, 5) _ rfl).later ((Below.refl _ _).alloc (Nat.le_refl _) _)) (by decide) (by decide) (by decide)
    · exact part_ok (lit_rowM _ .u8 [53, 54, 55, 56, 57] 5 (5, 6) _ (by simp)) (by decide) (by decide) (by decide)) (by simp) (by decide)).mono ?_
  rw [show allB [⟨some ⟨w2.heap.size, 0, none⟩, [49, 50, 51, 52], 4⟩, ⟨some ⟨w2.heap.size + 1, 0, none⟩, [53, 54, 55, 56, 57], 5⟩] = [49, 50, 51, 52, 53, 54, 55, 56, 57] from rfl, crc_known]
  rintro e w3 ⟨rfl, hbel3⟩
  have hB23 : Below w2.heap.size w2 w3 := ((((Below.refl _ _).alloc (Nat.le_refl _) _).alloc (by simp) _).alloc (by simp; omega) _).trans (hbel3.mono (by simp; omega))
  have hB3 := hB2.trans (hB23.mono hB2.size)
  have hr3 := hr2.later hB23
  clear hbel3 hB2 hr2 hB23 hW
  go_wp2_with fail
  have hMo := crcMore_any 0 (some ⟨w3.heap.size, 0, none⟩) [49, 50, 51, 52, 53, 54, 55, 56, 57] 9 (w3.alloc (.cells ([49, 50, 51, 52, 53, 54, 55, 56, 57].map (Value.int .u8)).toArray 5 (9, 10))) ((ht.later hB3).alloc _) (by decide) (lit_rowM w3 .u8 [49, 50, 51, 52, 53, 54, 55, 56, 57] 5 (9, 10) _ rfl) (by decide) (by decide) (by decide)
  rw [show CrcMath.more 0 (nats [49, 50, 51, 52, 53, 54, 55, 56, 57]) = 3421780262 from crc_known] at hMo
  refine Calls.mono hMo ?_
  rintro e w4 ⟨rfl, hbel4⟩
  have hB34 : Below w3.heap.size w3 w4 := ((Below.refl _ _).alloc (Nat.le_refl _) _).trans (hbel4.mono (by simp))
  have hB4 := hB3.trans (hB34.mono hB3.size)
  have hst := row_string (cap := c2) (hr3.later hB34)
  have hst2 : (convert 24 9 (.slice a2 4 c2)).run Tryd.prog w4 = .ok (.string (strOfNums [110, 101, 119, 115])) w4 := hst
  have hs1 := news_str
  clear hMo hbel4 hB34 hB3 hr3 hst
  go_wp2
  go_ret
  exact ⟨rfl, hB4⟩
end Go.Proofs.YtpffjeoiacaihaaDoor

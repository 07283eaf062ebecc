/-
  Walks of newsreelref1.DotBytes, newsreelref1.DotTake.
-/
import Derived.Test.YtehaeepihjookaaFnDotA
import Derived.Test.YtehaeepihjookaaDotOwn
import Derived.Test.YtehaeepihjookaaFnRefPut
import Derived.Test.YtehaeepihjookaaFnRefTake
import Derived.Test.YtehaeepihjookaaFnChanged
import Derived.Deep.Cut
namespace Go.Proofs.Ytehaeepihjookaa
open Go.RowKit NumMath
open DotMath (Dt)
set_option maxRecDepth 100000
set_option linter.unusedVariables false
set_option linter.unusedSimpArgs false

theorem bytes_none (w : World) : Bytes w (.slice none 0 0) [] := ⟨none, 0, rfl, .inl rfl, by simp, by simp, by decide, fun _ => rfl⟩
theorem own_low {w : World} {b b' e s n : Nat} {v : Value} {xs : List Value} (h : w.ownsRow b e s v n xs) (hb : b' ≤ b) : w.ownsRow b' e s v n xs :=
  ⟨h.1, h.2.imp id (fun ⟨g, cap, cur, h1, h2, h3⟩ => ⟨g, cap, cur, h1, Nat.le_trans hb h2, h3⟩)⟩
/-- A replica's byte, and a number behind it. -/
theorem refPut_dot (r s : Int) (hr0 : 0 ≤ r) (hr1 : r < 64) (hs0 : 1 ≤ s) (hs1 : s ≤ 1099511627775) (w : World) :
    Calls Try.prog 19 #[.slice (some ⟨w.heap.size, 0, none⟩) 1 1, .slice (some ⟨w.heap.size + 1, 0, none⟩) 1 1] ((w.alloc (.cells #[.int .u8 r] 5)).alloc (.cells #[.int .u64 s] 38)) fun e w' => ∃ v, e = .returned v ∧ Bytes w' v (r :: D s) ∧ Below w.heap.size w w' := by
  have hb1 : Below w.heap.size w (w.alloc (.cells #[.int .u8 r] 5)) := (Below.refl _ _).alloc (Nat.le_refl _) _
  have hb2 : Below (w.alloc (.cells #[.int .u8 r] 5)).heap.size (w.alloc (.cells #[.int .u8 r] 5)) ((w.alloc (.cells #[.int .u8 r] 5)).alloc (.cells #[.int .u64 s] 38)) := (Below.refl _ _).alloc (Nat.le_refl _) _
  have hr : Row .u8 (w.alloc (.cells #[.int .u8 r] 5)) (some ⟨w.heap.size, 0, none⟩) [r] := lit_row w .u8 [r] 5 _ rfl
  have hl : Row .u64 ((w.alloc (.cells #[.int .u8 r] 5)).alloc (.cells #[.int .u64 s] 38)) (some ⟨w.heap.size + 1, 0, none⟩) [s] := lit_row (w.alloc (.cells #[.int .u8 r] 5)) .u64 [s] 38 _ (by simp)
  have hb := hb1.trans (hb2.mono hb1.size)
  refine (refPut_any (some ⟨w.heap.size, 0, none⟩) (some ⟨w.heap.size + 1, 0, none⟩) [r] [s] 1 1 _ (hr.later hb2) (by simp) (by decide) (by simp) hl (by simp; omega) (by simp) (by decide) (by simp)).mono ?_
  rintro e w' ⟨v, rfl, hown, hbl⟩
  rw [List.flatMap_cons, List.flatMap_nil, List.append_nil] at hown
  refine ⟨v, rfl, own_bytes hown (fun c hc => ?_), hb.trans (hbl.mono hb.size)⟩
  rcases List.mem_cons.1 hc with rfl | hc
  · omega
  · exact D_byte (by omega) (by omega) c hc

set_option maxHeartbeats 4000000 in
theorem refDotBytes_any (d : Dt) (w : World) : Calls Try.prog 17 #[dtV d] w fun e w' => ∃ v, e = .returned v ∧ Bytes w' v (DotMath.bytes d) ∧ Below w.heap.size w w' := by
  have HR : Hid (∀ w, _) := fun w => refDotRight_any d w
  have HA0 : Hid (DtAt (w.alloc (.cells #[.int .i64 d.r, .int .i64 d.s] 23)) w.heap.size d) := DtAt.new w d rfl
  have HB0 : Hid (Below w.heap.size w (w.alloc (.cells #[.int .i64 d.r, .int .i64 d.s] 23))) := (Below.refl _ _).alloc (Nat.le_refl _) _
  unfold dtV at HR ⊢
  cases hq : DotMath.right d with
  | false =>
    rw [hq] at HR
    rw [DotMath.bytes_no hq]
    go_enter Try.func17, Try.ntmps17
    go_wp2_with fail
    refine Calls.mono (HR.out _) ?_
    rintro e w1 ⟨rfl, hb1⟩
    have HB1 : Hid _ := HB0.out.trans (hb1.mono HB0.out.size)
    clear hb1
    go_wp2
    go_ret
    exact ⟨_, rfl, bytes_none _, HB1.out⟩
  | true =>
    rw [hq] at HR
    obtain ⟨h0, h1, h2, h3⟩ := DotMath.right_iff.1 hq
    have HP : Hid (∀ w, _) := fun w => refPut_dot d.r d.s h0 h1 h2 h3 w
    have e1 : IntKind.u8.wrap d.r = d.r := by rw [IntKind.wrap_u8]; omega
    have e2 : IntKind.u64.wrap d.s = d.s := by rw [IntKind.wrap_u64]; omega
    rw [DotMath.bytes_yes hq]
    clear hq h0 h1 h2 h3
    go_enter Try.func17, Try.ntmps17
    go_wp2_with fail
    refine Calls.mono (HR.out _) ?_
    rintro e w1 ⟨rfl, hb1⟩
    have HA1 : Hid _ := HA0.out.later hb1 HA0.out.lt
    have HB1 : Hid _ := HB0.out.trans (hb1.mono HB0.out.size)
    obtain ⟨p0, p1⟩ := HA1.out.cells
    have hlt := HA1.out.lt
    clear hb1 HA0 HB0
    go_wp2_with fail
    refine Calls.mono (HP.out w1) ?_
    rintro e w2 ⟨v, rfl, hby, hb2⟩
    have HY : Hid _ := hby
    have HB2 : Hid _ := HB1.out.trans (hb2.mono HB1.out.size)
    clear hby hb2
    go_wp2
    go_ret
    exact ⟨v, rfl, HY.out, HB2.out⟩

theorem results_cell_tmp2 {fn : Func} {p u1 u2 : Tmp} {ty : TypeId} (h : fn.results = #[.cell p ty, .tmp u1, .tmp u2]) (tmps : Array Value) (P : Program) (w : World) :
    (results fn tmps).run P w =
      ((asAddr (tmps.getD p undef)).run P w).andThen fun a w₁ => ((loadVar ty a).run P w₁).andThen fun v w₂ => .ok (.tuple #[v, tmps.getD u1 undef, tmps.getD u2 undef]) w₂ := by
  simp only [results, h]
  simp [Sem.run_bind, Result.andThen]
/-- Three results, the first of which lies in its own variable. -/
theorem ret_dt3 {fn : Func} {R : Ending → World → Prop} {a : Act} {w : World} {p u1 u2 : Tmp} (g : Nat) (s : Dt) (x y : Value) (h : fn.results = #[.cell p 23, .tmp u1, .tmp u2]) (hp : a.tmps.getD p undef = .pointer (some ⟨g, 0, none⟩)) (h1 : a.tmps.getD u1 undef = x) (h2 : a.tmps.getD u2 undef = y) (hA : DtAt w g s)
    (hdf : a.defers = []) (hR : R (.returned (.tuple #[dtV s, x, y])) w) : bodyPost Try.prog fn R .ret a w := by
  refine bodyPost_ret (v := .tuple #[dtV s, x, y]) ?_ hdf hR
  rw [results_cell_tmp2 h, hp, h1, h2, dtV_eq]
  simp [asAddr, Result.andThen, Arr.load hA.arr _ Try.underlying23 rfl sizeDt]

theorem row_tail {w : World} {b off : Nat} {c : Int} {t : List Int} (h : Row .u8 w (some ⟨b, off, none⟩) (c :: t)) : w.cell? ⟨b, off, none⟩ = some (.int .u8 c) ∧ Row .u8 w (some ⟨b, off + 1, none⟩) t := by
  rcases h with h | ⟨b', off', ha, hc⟩
  · cases h
  · have ha' : b = b' ∧ off = off' := by simpa using ha
    obtain ⟨rfl, rfl⟩ := ha'
    refine ⟨hc 0 (by simp), .inr ⟨b, off + 1, rfl, fun i hi => ?_⟩⟩
    have := hc (i + 1) (by simpa using hi)
    rw [show off + 1 + i = off + (i + 1) by omega, this]
    simp

set_option maxHeartbeats 4000000 in
theorem refDotTake_any (a : Option Addr) (zs : List Int) (cap : Nat) (w : World) (hr : Row .u8 w a zs) (hb : ∀ c ∈ zs, 0 ≤ c ∧ c ≤ 255) (hc : zs.length ≤ cap) (hm : cap ≤ maxLen) :
    Calls Try.prog 21 #[.slice a zs.length cap] w fun e w' => e = .returned (.tuple #[dtV (DotMath.take zs).1, .int .i64 (DotMath.take zs).2.1, .int .i64 (DotMath.take zs).2.2]) ∧ Below w.heap.size w w' := by
  have HA0 : Hid (DtAt (w.alloc (.cells #[.int .i64 0, .int .i64 0] 23)) w.heap.size DotMath.zero) := DtAt.new w DotMath.zero rfl
  have HB0 : Hid (Below w.heap.size w (w.alloc (.cells #[.int .i64 0, .int .i64 0] 23))) := (Below.refl _ _).alloc (Nat.le_refl _) _
  unfold maxLen at hm
  cases zs with
  | nil =>
    go_enter Try.func21, Try.ntmps21
    go_wp2_with (refine wpList_store_dt rfl (.tmp 2) (.tmp 11) rfl w.heap.size DotMath.zero DotMath.zero rfl rfl HA0.out ?_)
    exact ret_dt3 w.heap.size DotMath.zero (.int .i64 0) (.int .i64 20) rfl rfl rfl rfl (DtAt.row HA0.out) rfl ⟨rfl, below_setRow HB0.out (Nat.le_refl _) _⟩
  | cons c t =>
    obtain ⟨b, off, rfl, _⟩ : ∃ b off, a = some ⟨b, off, none⟩ ∧ True := by
      rcases hr with h | ⟨b, off, ha, _⟩
      · cases h
      · exact ⟨b, off, ha, trivial⟩
    have hcb := hb c (by simp)
    have htb : ∀ x ∈ t, 0 ≤ x ∧ x ≤ 255 := fun x hx => hb x (by simp [hx])
    obtain ⟨k0, _⟩ := row_tail (hr.later HB0.out)
    obtain ⟨_, HRt⟩ := row_tail hr
    rw [List.length_cons] at hc ⊢
    have hl1 : ((t.length : Int) + 1 == 0) = false := by simp; omega
    by_cases h64 : 64 ≤ c
    · have HQ : Hid (DotMath.take (c :: t) = (DotMath.zero, 0, 21)) := by show _ = _; rw [DotMath.take_cons, if_pos h64]
      rw [HQ.out]
      generalize t.length = n at *
      clear hb htb hr HRt HQ
      go_enter Try.func21, Try.ntmps21
      go_wp2_with (refine wpList_store_dt rfl (.tmp 2) (.tmp 16) rfl w.heap.size DotMath.zero DotMath.zero rfl rfl HA0.out ?_)
      exact ret_dt3 w.heap.size DotMath.zero (.int .i64 0) (.int .i64 21) rfl rfl rfl rfl (DtAt.row HA0.out) rfl ⟨rfl, below_setRow HB0.out (Nat.le_refl _) _⟩
    · have h64' : c < 64 := by omega
      have HQ : Hid (DotMath.take (c :: t) = if (tak t).2.2 ≠ 0 then (DotMath.zero, 0, (tak t).2.2) else if (tak t).1 < 1 ∨ 1099511627775 < (tak t).1 then (DotMath.zero, 0, 21) else (⟨c, (tak t).1⟩, (tak t).2.1 + 1, 0)) := by show _ = _; rw [DotMath.take_cons, if_neg h64]
      obtain ⟨ao, hao⟩ : ∃ ao : Option Addr, ao = (if cap = 1 then some ⟨b, off, none⟩ else some ⟨b, off + 1, none⟩) := ⟨_, rfl⟩
      have hta : Row .u8 w ao t := by
        by_cases h1 : cap = 1
        · left; have : t.length = 0 := by omega
          exact List.eq_nil_of_length_eq_zero this
        · rw [hao, if_neg h1]; exact HRt
      have HTk : Hid (∀ w', Below w.heap.size w w' → Calls Try.prog 32 #[.slice ao t.length (cap - 1)] w' fun e w'' => e = .returned (takV (tak t)) ∧ w'' = w') := fun w' hB => refTake_any ao t (cap - 1) w' (hta.later hB) htb (by omega) (by unfold maxLen; omega)
      have HAo : Hid _ := hao
      have hlen1 : 1 ≤ cap := by omega
      have i1 : (1 : Int) ≤ (cap : Int) := by omega
      have i2 : (1 : Int) ≤ (t.length : Int) + 1 := by omega
      have htk := tak_cases t htb
      unfold takV at HTk
      generalize tak t = T at *
      generalize t.length = n at *
      have hcut : (Instr.sliceAt 34 (.slice (some ⟨b, off, none⟩) (n + 1) cap) (some (.int .i64 1)) none none).run Try.prog (w.alloc (.cells #[.int .i64 0, .int .i64 0] 23)) = .ok (.slice ao n (cap - 1)) (w.alloc (.cells #[.int .i64 0, .int .i64 0] 23)) := by
        rw [HAo.out]; go_simp
      clear hb htb hr HRt hao hta hc
      go_enter Try.func21, Try.ntmps21
      go_wp2_with fail
      refine Calls.mono (HTk.out _ HB0.out) ?_
      rintro e w1 ⟨rfl, rfl⟩
      rcases htk with rfl | rfl | ⟨k, v, hk, hkl, hv0, hv1, rfl, hD⟩
      · go_wp2_with (refine wpList_store_dt rfl (.tmp 2) (.tmp 26) rfl w.heap.size DotMath.zero DotMath.zero rfl rfl HA0.out ?_)
        exact ret_dt3 w.heap.size DotMath.zero (.int .i64 0) (.int .i64 20) rfl rfl rfl rfl (DtAt.row HA0.out) rfl ⟨by rw [HQ.out]; rfl, below_setRow HB0.out (Nat.le_refl _) _⟩
      · go_wp2_with (refine wpList_store_dt rfl (.tmp 2) (.tmp 26) rfl w.heap.size DotMath.zero DotMath.zero rfl rfl HA0.out ?_)
        exact ret_dt3 w.heap.size DotMath.zero (.int .i64 0) (.int .i64 21) rfl rfl rfl rfl (DtAt.row HA0.out) rfl ⟨by rw [HQ.out]; rfl, below_setRow HB0.out (Nat.le_refl _) _⟩
      · clear hD
        by_cases hv : v < 1 ∨ 1099511627775 < v
        · have HQ2 : Hid (DotMath.take (c :: t) = (DotMath.zero, 0, 21)) := by show _ = _; rw [HQ.out]; simp only []; rw [if_neg (by simp), if_pos hv]
          clear HQ
          rcases hv with hv | hv
          · go_wp2_with (refine wpList_store_dt rfl (.tmp 2) (.tmp 34) rfl w.heap.size DotMath.zero DotMath.zero rfl rfl HA0.out ?_)
            exact ret_dt3 w.heap.size DotMath.zero (.int .i64 0) (.int .i64 21) rfl rfl rfl rfl (DtAt.row HA0.out) rfl ⟨by rw [HQ2.out], below_setRow HB0.out (Nat.le_refl _) _⟩
          · have hv' : ¬ v < 1 := by omega
            go_wp2_with (refine wpList_store_dt rfl (.tmp 2) (.tmp 34) rfl w.heap.size DotMath.zero DotMath.zero rfl rfl HA0.out ?_)
            exact ret_dt3 w.heap.size DotMath.zero (.int .i64 0) (.int .i64 21) rfl rfl rfl rfl (DtAt.row HA0.out) rfl ⟨by rw [HQ2.out], below_setRow HB0.out (Nat.le_refl _) _⟩
        · have HQ2 : Hid (DotMath.take (c :: t) = (⟨c, v⟩, (k : Int) + 1 + 1, 0)) := by show _ = _; rw [HQ.out]; simp only []; rw [if_neg (by simp), if_neg hv]
          clear HQ
          have hv1 : 1 ≤ v := by omega
          have hv2 : v ≤ 1099511627775 := by omega
          have e1 : IntKind.i64.wrap v = v := by rw [IntKind.wrap_i64]; omega
          go_wp2_with (refine wpList_store_dt rfl (.tmp 2) (.tmp 41) rfl w.heap.size DotMath.zero ⟨c, v⟩ rfl rfl HA0.out ?_)
          refine ret_dt3 w.heap.size ⟨c, v⟩ (.int .i64 ((k : Int) + 1 + 1)) (.int .i64 0) rfl rfl ?_ rfl (DtAt.row HA0.out) rfl ⟨by rw [HQ2.out], below_setRow HB0.out (Nat.le_refl _) _⟩
          first | rfl | (go_num) | (simp; done)
end Go.Proofs.Ytehaeepihjookaa

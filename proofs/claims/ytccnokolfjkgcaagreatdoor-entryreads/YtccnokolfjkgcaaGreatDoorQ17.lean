/-
  EntKit, FnEntD.
-/
import Derived.Test.YtccnokolfjkgcaaGreatDoorQ16
import Derived.Test.YtccnokolfjkgcaaGreatDoorQ04
import Derived.Test.YtccnokolfjkgcaaGreatDoorQ01
import Derived.Laws.ResultCell
import Derived.Test.YtccnokolfjkgcaaGreatDoorQ03
import Derived.Deep.QuietTactic
namespace Go.Proofs.YtccnokolfjkgcaaGreatDoor
open Go.RowKit NumMath
open EntMath (E)
set_option maxRecDepth 100000
set_option linter.unusedVariables false
set_option linter.unusedSimpArgs false

def entL (e : E) : List Value := [.string (strN e.feed), .string (strN e.guid), .string (strN e.title), .string (strN e.link), .string (strN e.body), .int .i64 e.time]
def entV (e : E) : Value := .agg #[.string (strN e.feed), .string (strN e.guid), .string (strN e.title), .string (strN e.link), .string (strN e.body), .int .i64 e.time]
theorem entV_eq (e : E) : entV e = .agg (entL e).toArray := rfl
theorem entL_len (e : E) : (entL e).length = 6 := rfl
theorem entL_one (e : E) : ∀ v ∈ entL e, v.oneCell' = true := by
  intro v hv
  simp only [entL, List.mem_cons, List.not_mem_nil, or_false] at hv
  rcases hv with rfl | rfl | rfl | rfl | rfl | rfl <;> rfl
theorem sizeE : (Tryz.prog.info? 23).map (·.size) = some 6 := by kernel_rfl
theorem zeroE : (Tryz.prog.info? 23).map (fun i => (i.zero, i.size)) = some (some (entV EntMath.zero), 6) := by kernel_rfl
/-- An entry that lies in block g. -/
structure EntAt (w : World) (g : Nat) (e : E) : Prop where
  arr : Arr w g 23 (entL e)
theorem EntAt.new (w : World) (e : E) : EntAt (w.alloc (.cells #[.string (strN e.feed), .string (strN e.guid), .string (strN e.title), .string (strN e.link), .string (strN e.body), .int .i64 e.time] 23)) w.heap.size e := ⟨Arr.new w _ (entL e) rfl⟩
theorem EntAt.later {w w' : World} {g : Nat} {e : E} {B : Nat} (h : EntAt w g e) (hb : Below B w w') (hg : g < B) : EntAt w' g e := ⟨Arr.later h.arr hb hg⟩
theorem EntAt.alloc {w : World} {g : Nat} {e : E} (h : EntAt w g e) (o : Obj) : EntAt (w.alloc o) g e := ⟨Arr.alloc h.arr o⟩
theorem EntAt.lt {w : World} {g : Nat} {e : E} (h : EntAt w g e) : g < w.heap.size := Arr.lt h.arr
theorem EntAt.cells {w : World} {g : Nat} {e : E} (h : EntAt w g e) :
    w.cell? ⟨g, 0, none⟩ = some (.string (strN e.feed)) ∧ w.cell? ⟨g, 1, none⟩ = some (.string (strN e.guid)) ∧ w.cell? ⟨g, 2, none⟩ = some (.string (strN e.title)) ∧
    w.cell? ⟨g, 3, none⟩ = some (.string (strN e.link)) ∧ w.cell? ⟨g, 4, none⟩ = some (.string (strN e.body)) ∧ w.cell? ⟨g, 5, none⟩ = some (.int .i64 e.time) :=
  ⟨Arr.cell h.arr 0, Arr.cell h.arr 1, Arr.cell h.arr 2, Arr.cell h.arr 3, Arr.cell h.arr 4, Arr.cell h.arr 5⟩
theorem EntAt.frozen {w : World} {g : Nat} {e : E} (h : EntAt w g e) (j : Nat) : w.frozen? ⟨g, j, none⟩ = false := Arr.frozen h.arr j

/-- Two results, the first of which lies in its own variable. -/
theorem ret_ent {fn : Func} {R : Ending → World → Prop} {a : Act} {w : World} {p u : Tmp} (g : Nat) (e : E) (v : Value) (h : fn.results = #[.cell p 23, .tmp u]) (hp : a.tmps.getD p undef = .pointer (some ⟨g, 0, none⟩)) (hu2 : a.tmps.getD u undef = v) (hA : EntAt w g e)
    (hdf : a.defers = []) (hR : R (.returned (.tuple #[entV e, v])) w) : bodyPost Tryz.prog fn R .ret a w := by
  refine bodyPost_ret (v := .tuple #[entV e, v]) ?_ hdf hR
  rw [results_cell_tmp h, hp, hu2, entV_eq]
  simp [asAddr, Result.andThen, Arr.load hA.arr _ Tryz.underlying23 rfl sizeE]
/-- An entry, whole, into its block. -/
theorem wpList_store_ent {ops : Array Oper} {rest : List Oper} {op : Oper} {a : Act} {w : World} {Q : Exit → Act → World → Prop} (hgd : op.guard = none) (x y : Operand) (ho : op.op = .store 23 x y)
    (g : Nat) (e e' : E) (hx : a.eval x = .pointer (some ⟨g, 0, none⟩)) (hy : a.eval y = entV e') (h : EntAt w g e)
    (hn : wpList Tryz.prog ops Q rest (a.put op.dst undef) (w.setRow g (entL e').toArray)) : wpList Tryz.prog ops Q (op :: rest) a w :=
  wpList_store_arr hgd 23 x y ho g 23 (entL e) (entL e') hx hy h.arr sizeE rfl (entL_one e') hn
theorem EntAt.row {w : World} {g : Nat} {e e' : E} (h : EntAt w g e) : EntAt (w.setRow g (entL e').toArray) g e' := ⟨Arr.row h.arr⟩
theorem EntAt.row_other {w : World} {g g' : Nat} {e : E} (h : EntAt w g e) (cs : Array Value) (hg : g ≠ g') : EntAt (w.setRow g' cs) g e := ⟨Arr.row_other h.arr cs hg⟩

/-- The equality of two entries, as the walk shows it. -/
theorem ent_eq_iff {a b : E} : a = b ↔ a.feed = b.feed ∧ a.guid = b.guid ∧ a.title = b.title ∧ a.link = b.link ∧ a.body = b.body ∧ a.time = b.time := by
  cases a; cases b; simp
end Go.Proofs.YtccnokolfjkgcaaGreatDoor
namespace Go.Proofs.YtccnokolfjkgcaaGreatDoor
open Go.RowKit NumMath
open EntMath (E takeT)
set_option maxRecDepth 100000
set_option linter.unusedVariables false
set_option linter.unusedSimpArgs false

/-- A slice of bytes that may be read on. -/
structure Rest (w : World) (a : Option Addr) (zs : List Int) (cap : Nat) : Prop where
  row : Row .u8 w a zs
  len : zs.length ≤ cap
  lim : cap ≤ maxLen
  nil : a = none → cap = 0
theorem Rest.later {w w' : World} {a : Option Addr} {zs : List Int} {cap : Nat} (h : Rest w a zs cap) (hb : Below w.heap.size w w') : Rest w' a zs cap := ⟨h.row.later hb, h.len, h.lim, h.nil⟩
theorem strN_nI {zs : List Int} (h : ∀ c ∈ zs, 0 ≤ c ∧ c ≤ 255) : strOfNums zs = strN (EntMath.nI zs) := by
  have := EntMath.iN_nI h
  conv => lhs; rw [← this]
  unfold strOfNums strN EntMath.iN
  simp

set_option maxHeartbeats 16000000 in
theorem takeText_any (a : Option Addr) (zs : List Int) (cap : Nat) (w : World) (hR : Rest w a zs cap) (hb : ∀ c ∈ zs, 0 ≤ c ∧ c ≤ 255) :
    Calls Tryz.prog 44 #[.slice a zs.length cap] w fun r w' => Below w.heap.size w w' ∧
      (((takeT zs).2.2 = 0 ∧ ∃ ao c, r = .returned (.tuple #[.string (strN (takeT zs).1), .slice ao (takeT zs).2.1.length c, .int .i64 0]) ∧ ∀ W, Rest W a zs cap → Rest W ao (takeT zs).2.1 c) ∨
      (takeT zs = ([], [], 20) ∧ r = .returned (.tuple #[.string ⟨#[]⟩, .slice none 0 0, .int .i64 20])) ∨ (takeT zs = ([], [], 21) ∧ r = .returned (.tuple #[.string ⟨#[]⟩, .slice none 0 0, .int .i64 21]))) := by
  have hT := take_any a zs cap w hR.row hb hR.len hR.lim
  rcases tak_cases zs hb with h | h | ⟨k, v, hk, hkl, hv0, hv1, h, hD⟩
  · have HQ : Hid (takeT zs = ([], [], 20)) := by show _ = _; unfold takeT; rw [h]; rfl
    rw [h] at hT
    unfold takV at hT
    have HT : Hid _ := hT
    clear hT h hR
    go_enter Tryz.func44, Tryz.ntmps44
    go_wp2_with fail
    refine Calls.mono HT.out ?_
    rintro r w1 ⟨rfl, rfl⟩
    go_wp2
    go_ret3
    exact ⟨Below.refl _ _, .inr (.inl ⟨HQ.out, rfl⟩)⟩
  · have HQ : Hid (takeT zs = ([], [], 21)) := by show _ = _; unfold takeT; rw [h]; rfl
    rw [h] at hT
    unfold takV at hT
    have HT : Hid _ := hT
    clear hT h hR
    go_enter Tryz.func44, Tryz.ntmps44
    go_wp2_with fail
    refine Calls.mono HT.out ?_
    rintro r w1 ⟨rfl, rfl⟩
    go_wp2
    go_ret3
    exact ⟨Below.refl _ _, .inr (.inr ⟨HQ.out, rfl⟩)⟩
  · obtain ⟨n, hn⟩ : ∃ n, n = k + 1 := ⟨_, rfl⟩
    obtain ⟨m, hm⟩ : ∃ m : Nat, v = (m : Int) := ⟨v.toNat, by omega⟩
    subst hm
    rw [show (k : Int) + 1 = (n : Int) by omega] at h
    rw [← hn] at hkl hD
    have hnz : zs ≠ [] := by intro e; rw [e] at hkl; simp at hkl; omega
    obtain ⟨b, off, ha, hcell⟩ := hR.row.resolve_left hnz
    subst ha
    have hlen := hR.len
    have hcap := hR.lim
    have hmc : (cap : Int) ≤ 9223372036854775807 := by unfold maxLen at hcap; omega
    obtain ⟨L, hL⟩ : ∃ L, L = zs.length := ⟨_, rfl⟩
    obtain ⟨rl, hrl⟩ : ∃ rl, rl = (zs.drop n).length := ⟨_, rfl⟩
    have hrlL : rl = L - n := by rw [hrl, hL]; simp
    have HRt : Hid (∀ W, Row .u8 W (some ⟨b, off, none⟩) zs → ∀ ao : Option Addr, (¬ cap = n → ao = some ⟨b, off + n, none⟩) → Row .u8 W ao (zs.drop n)) := by
      intro W hW ao h
      have h2 : Row .u8 W (some ⟨b, off, none⟩) (zs.take n ++ zs.drop n) := by rw [List.take_append_drop]; exact hW
      exact Row.rest h2 (m := n) (c := cap) (by rw [List.length_take]; omega) (by rw [List.take_append_drop]; exact hlen) h
    rw [h] at hT
    unfold takV at hT
    rw [← hL] at hT hlen hkl ⊢
    have HT : Hid _ := hT
    have hnL : n ≤ L := hkl
    have hnc : (n : Int) ≤ (cap : Int) := by omega
    have hnL2 : (n : Int) ≤ (L : Int) := by omega
    have hw64 : (m : Int) ≤ 18446744073709551615 := hv1
    by_cases hbig : rl < m
    · have HQ : Hid (takeT zs = ([], [], 20)) := by
        show _ = _; unfold takeT; rw [h]; simp only [Int.toNat_natCast]
        rw [if_neg (by simp), ← hrl, if_pos (by omega)]
      have hbig2 : (L : Int) - (n : Int) < (m : Int) := by omega
      clear hT h hR hD hcell hnz hL hrl hn
      go_enter Tryz.func44, Tryz.ntmps44
      go_wp2_with fail
      refine Calls.mono HT.out ?_
      rintro r w1 ⟨rfl, rfl⟩
      go_wp2
      all_goals
        go_ret3
        exact ⟨Below.refl _ _, .inr (.inl ⟨HQ.out, rfl⟩)⟩
    · have HQ : Hid (takeT zs = (EntMath.nI ((zs.drop n).take m), (zs.drop n).drop m, 0)) := by
        show _ = _; unfold takeT; rw [h]; simp only [Int.toNat_natCast]
        rw [if_neg (by simp), ← hrl, if_neg (by omega)]
      have hbig2 : (m : Int) ≤ (L : Int) - (n : Int) := by omega
      have hmr : m ≤ rl := by omega
      have hmcap : (m : Int) ≤ (cap : Int) - (n : Int) := by omega
      have hsub : ∀ c ∈ (zs.drop n).take m, 0 ≤ c ∧ c ≤ 255 := fun c hc => hb c (List.mem_of_mem_drop (List.mem_of_mem_take hc))
      have htl : ((zs.drop n).take m).length = m := by rw [List.length_take]; omega
      have hdl : ((zs.drop n).drop m).length = rl - m := by rw [List.length_drop, hrl]
      have HCV : Hid (∀ (ao : Option Addr) (j : Nat), (¬ cap = n → ao = some ⟨b, off + n, none⟩) → (convert 48 9 (.slice ao m (cap - n))).run Tryz.prog (w.drewN j) = .ok (.string (strN (EntMath.nI ((zs.drop n).take m)))) (w.drewN j)) := by
        intro ao j h
        have h1 : Row .u8 (w.drewN j) ao ((zs.drop n).take m) := Row.later ((HRt.out w hR.row ao h).take m) (Below.drewN (Below.refl _ _) _)
        have := row_string (cap := cap - n) h1
        rw [htl, strN_nI hsub] at this
        exact this
      have HRs : Hid (∀ (b2 o2 : Nat) (W : World), (¬ cap = n → (some ⟨b2, o2, none⟩ : Option Addr) = some ⟨b, off + n, none⟩) → Row .u8 W (some ⟨b, off, none⟩) zs → ∀ ao : Option Addr, (¬ cap - n = m → ao = some ⟨b2, o2 + m, none⟩) → Row .u8 W ao ((zs.drop n).drop m)) := by
        intro b2 o2 W h hW ao h2
        have h1 : Row .u8 W (some ⟨b2, o2, none⟩) ((zs.drop n).take m ++ (zs.drop n).drop m) := by rw [List.take_append_drop]; exact HRt.out _ hW _ h
        exact Row.rest h1 (m := m) (c := cap - n) htl (by rw [List.take_append_drop, ← hrl]; omega) h2
      have HQl : Hid (((zs.drop n).drop m).length = L - n - m) := by show _ = _; rw [hdl, hrlL]
      have hcl : maxLen = maxLen := rfl
      have hLn : ((L - n : Nat) : Int) = (L : Int) - (n : Int) := by omega
      have hcn2 : ((cap - n : Nat) : Int) = (cap : Int) - (n : Int) := by omega
      have hm1 : (m : Int) ≤ ((L - n : Nat) : Int) := by omega
      have hm2 : (m : Int) ≤ ((cap - n : Nat) : Int) := by omega
      have hm3 : ((L - n : Nat) : Int) ≤ ((cap - n : Nat) : Int) := by omega
      have hm0 : m ≤ L - n := by omega
      clear hT h hR hD hcell hnz hL hn hLn hcn2 hrlL hrl hmr hbig htl hdl hcl
      by_cases hcn : cap = n
      · have hcv := fun j => HCV.out (some ⟨b, off, none⟩) j (fun h => absurd hcn h)
        have HRs2 : Hid _ := fun j => HRs.out b off j (fun h => absurd hcn h)
        clear HCV HRs
        obtain ⟨C, hC⟩ : ∃ C, C = cap - n := ⟨_, rfl⟩
        obtain ⟨R, hR⟩ : ∃ R, R = L - n := ⟨_, rfl⟩
        have hC0 : C = 0 := by omega
        have hR0 : R = 0 := by omega
        have hm00 : m = 0 := by omega
        have hLn : L = n := by omega
        subst hLn
        subst hcn
        subst hm00
        rw [← hC] at hcv HRs2
        rw [← hR] at HQl
        subst hC0
        subst hR0
        have HCAP : Hid _ := hcap
        clear hC hR hb hsub hnL hnc hnL2 hbig2 hmcap hv0 hv1 hkl hk hm1 hm2 hm3 hm0 hlen hcap hw64
        go_enter Tryz.func44, Tryz.ntmps44
        go_wp2_with fail
        refine Calls.mono HT.out ?_
        rintro r w1 ⟨rfl, rfl⟩
        go_wp2
        have hs1 : ∀ w, (Instr.sliceAt 48 (.slice (some ⟨b, off, none⟩) 0 0) none (some (.int .u64 0)) none).run Tryz.prog w = .ok (.slice (some ⟨b, off, none⟩) 0 0) w := by
          intro w
          go_simp
        have hs2 : ∀ w, (Instr.sliceAt 48 (.slice (some ⟨b, off, none⟩) 0 0) (some (.int .u64 0)) none none).run Tryz.prog w = .ok (.slice (some ⟨b, off, none⟩) 0 0) w := by
          intro w
          go_simp
        go_quiet (fail)
        go_wp2
        go_ret3
        refine ⟨Below.drewN (Below.refl _ _) _, .inl ⟨by rw [HQ.out], some ⟨b, off, none⟩, 0, ?_, ?_⟩⟩
        · rw [HQ.out, HQl.out]; rfl
        · rw [HQ.out]
          intro W hW
          exact ⟨HRs2.out W hW.row _ (fun h => absurd trivial h), by have := HQl.out; show ((zs.drop cap).drop 0).length ≤ 0; omega, by unfold maxLen; omega, fun h => by cases h⟩
      · have hcv := fun j => HCV.out (some ⟨b, off + n, none⟩) j (fun _ => rfl)
        have HRs2 : Hid _ := fun j => HRs.out b (off + n) j (fun _ => rfl)
        clear HCV HRs
        go_enter Tryz.func44, Tryz.ntmps44
        go_wp2_with fail
        refine Calls.mono HT.out ?_
        rintro r w1 ⟨rfl, rfl⟩
        go_wp2
        clear hb hsub hmc hnL hnc hnL2 hbig2 hmcap hv0 hv1 hkl hk
        have HCC : Hid (cap - n ≤ maxLen ∧ L - n ≤ cap - n) := ⟨by omega, by omega⟩
        have hcc := HCC.out
        clear HCC hcap hlen hcn
        generalize L - n = R at *
        generalize cap - n = C at *
        generalize off + n = o2 at *
        obtain ⟨hcap, hlen⟩ := hcc
        have HCC : True := trivial
        have hs1 : ∀ w, (Instr.sliceAt 48 (.slice (some ⟨b, o2, none⟩) R C) none (some (.int .u64 (m : Int))) none).run Tryz.prog w = .ok (.slice (some ⟨b, o2, none⟩) m C) w := by
          intro w
          go_simp
        have hs2 : ∀ w, (Instr.sliceAt 48 (.slice (some ⟨b, o2, none⟩) R C) (some (.int .u64 (m : Int))) none none).run Tryz.prog w = .ok (.slice (if C = m then some ⟨b, o2, none⟩ else some ⟨b, o2 + m, none⟩) (R - m) (C - m)) w := by
          intro w
          go_simp
        generalize hao : (if C = m then (some ⟨b, o2, none⟩ : Option Addr) else some ⟨b, o2 + m, none⟩) = ao at hs2
        have HAO : Hid _ := hao
        have HM : Hid (m ≤ C ∧ C ≤ maxLen ∧ R ≤ C) := ⟨by omega, by omega, by omega⟩
        clear hao hm1 hm2 hm3 hm0 hcap hlen HCC
        go_quiet (fail)
        go_wp2
        go_ret3
        refine ⟨Below.drewN (Below.refl _ _) _, .inl ⟨by rw [HQ.out], ao, C - m, ?_, ?_⟩⟩
        · rw [HQ.out, HQl.out]; rfl
        · rw [HQ.out]
          intro W hW
          obtain ⟨hq1, hq2, hq3⟩ := HM.out
          have hlq := HQl.out
          refine ⟨HRs2.out W hW.row ao (fun h => by rw [← HAO.out, if_neg h]), ?_, ?_, ?_⟩
          · show ((zs.drop n).drop m).length ≤ C - m
            rw [hlq]; omega
          · omega
          · intro h
            exfalso
            have := HAO.out
            rw [h] at this
            split at this <;> cases this
end Go.Proofs.YtccnokolfjkgcaaGreatDoor

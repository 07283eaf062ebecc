/-
  The walk of the law NumMany: numbers that are laid at once are those that are laid one behind another, and come back in their order.
-/
import Derived.Test.YtomfbgeolflenaaWalkK
namespace Go.Proofs.Ytomfbgeolflenaa
open Go.RowKit NumMath
set_option linter.unusedVariables false

/-- A row of bytes as a string. -/
theorem row_string {w : World} {a : Option Addr} {zs : List Int} {cap : Nat} (h : Row .u8 w a zs) : (convert 22 9 (.slice a zs.length cap)).run Try.prog w = .ok (.string (strOfNums zs)) w := by
  rcases h with rfl | ⟨b, off, rfl, hc⟩
  · cases a with
    | none => exact run_convert_bytes_nil w 22 5 Try.underlying22 Try.underlying5 0 cap 9 Try.underlying9
    | some x =>
      rw [run_convert_bytes_string w 22 9 5 _ _ cap Try.underlying22 Try.underlying5 Try.underlying9]
      exact run_bytesToString w x 0 cap [] (by simp [loadCells, loadCellsFrom])
  · exact run_convert_bytes_arg w 22 5 Try.underlying22 Try.underlying5 b off zs.length cap zs rfl hc 9 Try.underlying9

theorem F_byte {zs ls : List Int} (hz : ∀ c ∈ zs, 0 ≤ c ∧ c ≤ 255) (hl : ∀ c ∈ ls, 0 ≤ c ∧ c ≤ 18446744073709551615) (k : Nat) : ∀ c ∈ F zs ls k, 0 ≤ c ∧ c ≤ 255 := by
  intro c hc
  rcases List.mem_append.1 hc with h | h
  · exact hz c h
  · obtain ⟨x, hx, hcx⟩ := List.mem_flatMap.1 h
    have := hl x (List.mem_of_mem_take hx)
    exact D_byte this.1 this.2 c hcx

theorem drop_step (ls : List Int) (j : Nat) (h : j < ls.length) : (ls.drop j).flatMap D = D (ls[j]?.getD 0) ++ (ls.drop (j + 1)).flatMap D := by
  rw [List.drop_eq_getElem_cons h, List.flatMap_cons]
  simp [h]

/-- What stands behind the first m. -/
theorem Row.rest {w : World} {b off m c : Nat} {xs ys : List Int} (h : Row .u8 w (some ⟨b, off, none⟩) (xs ++ ys)) (hm : xs.length = m) (hc : (xs ++ ys).length ≤ c) {ao : Option Addr} (hao : ¬ c = m → ao = some ⟨b, off + m, none⟩) : Row .u8 w ao ys := by
  by_cases e : c = m
  · left
    apply List.eq_nil_of_length_eq_zero
    simp at hc; omega
  · rcases h with h | ⟨b', off', ha, hcell⟩
    · left; simp at h; exact h.2
    · have ha' : b = b' ∧ off = off' := by simpa using ha
      obtain ⟨rfl, rfl⟩ := ha'
      refine .inr ⟨b, off + m, hao e, fun i hi => ?_⟩
      have := hcell (m + i) (by simp; omega)
      rw [show off + m + i = off + (m + i) by omega, this, ← hm]
      simp [List.getElem?_append_right]

set_option maxHeartbeats 1600000 in
theorem numMany_walk (al : Option Addr) (ls : List Int) (cap : Nat) (W : World) (hr : Row .u64 W al ls) (hc : ls.length ≤ cap) (hm : cap ≤ maxLen) (hn : al = none → cap = 0)
    (hw : ∀ n ∈ ls, (Lit.int .u64 n).wf = true) (hs : cap * 8 ≤ 140737488351232) :
    Calls Try.prog 9 #[.slice al ls.length cap] W fun e w' => e = .returned (.bool true) ∧ Below W.heap.size W w' := by
  have hlb := u64s hw
  have hcm : cap ≤ 140737488351232 := by omega
  obtain ⟨n, hnn⟩ : ∃ n, n = ls.length := ⟨_, rfl⟩
  have HN : Hid (n = ls.length) := hnn
  rw [← hnn] at hc
  by_cases hbig : 300 < n
  · rw [← hnn]
    clear hnn
    go_enter Try.func9, Try.ntmps9
    go_wp2_with fail
    refine (known_any _).mono ?_
    rintro e w1 ⟨rfl, hb1⟩
    go_wp2
    go_ret
    exact ⟨rfl, hb1⟩
  · have hput : ∀ w1, Below W.heap.size W w1 → Calls Try.prog 12 #[.slice none 0 0, .slice al n cap] w1 fun e w' => ∃ g, e = .returned (.slice (some ⟨g, 0, none⟩) (F [] ls n).length (F [] ls n).length) ∧
        w'.ownsRow w1.heap.size 5 1 (.slice (some ⟨g, 0, none⟩) (F [] ls n).length (F [] ls n).length) (F [] ls n).length ((F [] ls n).map (Value.int .u8)) ∧ Below w1.heap.size w1 w' := by
      intro w1 hb
      rw [hnn]
      exact put_own none al [] ls 0 cap w1 (F [] ls ls.length) _ (F_all [] ls).symm rfl (.inl rfl) (Nat.le_refl _) (by decide) (fun _ => rfl) (hr.later hb) hlb (by omega) hm (by simp; omega)
    have hFl := F_le [] ls n
    simp only [List.length_nil, Nat.zero_add] at hFl
    have hFb := F_byte (zs := []) (by simp) hlb
    have hle : n ≤ 300 := by omega
    have hat : ∀ j, j < n → ∃ b off, al = some ⟨b, off, none⟩ ∧ W.cell? ⟨b, off + j, none⟩ = some (.int .u64 (ls[j]?.getD 0)) := by
      intro j hj
      rcases hr with h | ⟨b, off, ha, hcell⟩
      · rw [h] at hnn; simp at hnn; omega
      · exact ⟨b, off, ha, by simpa using hcell j (by omega)⟩
    have HAT : Hid (∀ j, j < n → ∃ b off, al = some ⟨b, off, none⟩ ∧ W.cell? ⟨b, off + j, none⟩ = some (.int .u64 (ls[j]?.getD 0))) := hat
    clear hat hbig
    rw [← hnn]
    clear hnn hw
    have HPUT : Hid _ := hput
    clear hput
    go_enter Try.func9, Try.ntmps9
    go_wp2_with fail
    refine (known_any _).mono ?_
    rintro e w1 ⟨rfl, hb1⟩
    go_wp2_with fail
    refine Calls.mono (HPUT.out w1 hb1) ?_
    rintro e w2 ⟨g, rfl, hown2, hb2⟩
    have hrp : Row .u8 w2 (some ⟨g, 0, none⟩) (F [] ls n) := by
      have := own_row hown2 (F [] ls n).length (Nat.le_refl _)
      rwa [List.take_of_length_le (Nat.le_refl _)] at this
    have hb2' : Below W.heap.size W w2 := hb1.trans (hb2.mono hb1.size)
    clear hown2 hb2 hb1
    obtain ⟨T, hT⟩ : ∃ T, T = (F [] ls n).length := ⟨_, rfl⟩
    rw [← hT] at hFl ⊢
    have HT : Hid (T = (F [] ls n).length) := hT
    clear hT HPUT
    go_wp2
    go_loopw [4, 5] (fun q i wr => ∃ (j : Nat) (a : Option Addr) (c : Nat), j ≤ n ∧ i = .int .i64 j ∧ q = .slice a (F [] ls j).length c ∧ Row .u8 wr a (F [] ls j) ∧ (F [] ls j).length ≤ c ∧ c ≤ maxLen ∧ (a = none → c = 0) ∧ Below w2.heap.size w2 wr) (fun _ i _ => n - (intOf i).toNat)
    case atStart => exact ⟨0, none, 0, by omega, rfl, rfl, .inl (by simp [F]), by simp [F], by decide, fun _ => rfl, Below.refl _ _⟩
    case round =>
      obtain ⟨j, a, c, hj, rfl, rfl, hrq, hcq, hmq, hnq, hbq⟩ := hrel
      have hbW : Below W.heap.size W wr := hb2'.trans (hbq.mono hb2'.size)
      by_cases hlt : j < n
      · obtain ⟨b, off, hal, hcl⟩ := HAT.out j hlt
        obtain ⟨V, hV⟩ : ∃ V, V = ls[j]?.getD 0 := ⟨_, rfl⟩
        rw [← hV] at hcl
        have hcx : wr.cell? ⟨b, off + j, none⟩ = some (.int .u64 V) := (hbW.cell (World.block_lt_of_cell? W _ hcl)).trans hcl
        have hVb : 0 ≤ V ∧ V ≤ 18446744073709551615 := by rw [hV]; exact hlb _ (mem_getD ls j (by have := HN.out; omega))
        have HF : Hid (F [] ls j ++ [V].flatMap D = F [] ls (j + 1)) := by
          rw [hV]
          show _ = _
          rw [F_succ [] ls j (by have := HN.out; omega)]; simp
        have hjl := F_le [] ls j
        simp only [List.length_nil, Nat.zero_add] at hjl
        have hP := put_own a (some ⟨wr.heap.size, 0, none⟩) (F [] ls j) [V] c 1 (wr.alloc (.cells #[.int .u64 V] 26)) (F [] ls (j + 1)) _ HF.out rfl (hrq.later ((Below.refl _ _).alloc (Nat.le_refl _) _)) hcq hmq hnq (by exact lit_row _ .u64 [V] 26 _ rfl) (by simp; omega) (by simp) (by decide) (by simp; omega)
        have HP : Hid _ := hP
        subst hal
        clear hV hcl hP
        go_wp2_with (go_at_call 12; refine Calls.mono HP.out ?_; rintro e w3 ⟨g3, rfl, hown3, hb3⟩)
        have hr3 : Row .u8 w3 (some ⟨g3, 0, none⟩) (F [] ls (j + 1)) := by
          have := own_row hown3 (F [] ls (j + 1)).length (Nat.le_refl _)
          rwa [List.take_of_length_le (Nat.le_refl _)] at this
        have hl3 := F_le [] ls (j + 1)
        simp only [List.length_nil, Nat.zero_add] at hl3
        have hb3' : Below w2.heap.size w2 w3 := (hbq.alloc hbq.size _).trans (hb3.mono (by have := hbq.size; simp; omega))
        clear hown3 hb3
        go_roundw
        case rel => exact ⟨j + 1, some ⟨g3, 0, none⟩, _, by omega, by go_num, rfl, hr3, Nat.le_refl _, by unfold maxLen; omega, (fun h => by cases h), hb3'⟩
        case measure => simp [intOf]; omega
      · have hjn : j = n := by omega
        subst hjn
        have hs1 := row_string (cap := T) (hrp.later hbq)
        have hs2 := row_string (cap := c) hrq
        rw [← HT.out] at hs1 hs2
        rw [← HT.out]
        have hrw := hrp.later hbq
        have HFA : Hid (F [] ls j = (ls.drop 0).flatMap D) := by show F [] ls j = _; rw [HN.out, F_all]; simp
        clear hrp hrq hcq hmq hnq
        go_wp2
        clear hs1 hs2
        go_loop [3, 6] (fun p i => ∃ (q : Nat) (a : Option Addr) (c : Nat) (R : List Int), q ≤ j ∧ i = .int .i64 q ∧ p = .slice a R.length c ∧ R = (ls.drop q).flatMap D ∧ Row .u8 wr a R ∧ R.length ≤ c ∧ c ≤ T) (fun _ i => j - (intOf i).toNat)
        case atStart => exact ⟨0, some ⟨g, 0, none⟩, T, F [] ls j, by omega, rfl, by rw [← HT.out], HFA.out, hrw, by have := HT.out; omega, Nat.le_refl _⟩
        case round =>
          obtain ⟨q, ap, cp, R, hq, rfl, rfl, hR, hrR, hcR, hcT⟩ := hrel
          by_cases hlt2 : q < j
          · obtain ⟨b, off, hal, hcl⟩ := HAT.out q hlt2
            obtain ⟨V, hV⟩ : ∃ V, V = ls[q]?.getD 0 := ⟨_, rfl⟩
            rw [← hV] at hcl
            have hcx : wr.cell? ⟨b, off + q, none⟩ = some (.int .u64 V) := (hbW.cell (World.block_lt_of_cell? W _ hcl)).trans hcl
            have hVb : 0 ≤ V ∧ V ≤ 18446744073709551615 := by rw [hV]; exact hlb _ (mem_getD ls q (by have := HN.out; omega))
            obtain ⟨S, hS⟩ : ∃ S, S = (ls.drop (q + 1)).flatMap D := ⟨_, rfl⟩
            have hRS : R = D V ++ S := by rw [hR, hS, hV]; exact drop_step ls q (by have := HN.out; omega)
            have hDl := D_len V
            have hRl : R.length = (D V).length + S.length := by rw [hRS]; simp
            have hSb : ∀ c ∈ S, 0 ≤ c ∧ c ≤ 255 := by
              intro c hc
              rw [hS] at hc
              obtain ⟨x, hx, hcx⟩ := List.mem_flatMap.1 hc
              have := hlb x (List.mem_of_mem_drop hx)
              exact D_byte this.1 this.2 c hcx
            have hne : R ≠ [] := by intro e; rw [e] at hRl; simp at hRl; omega
            obtain ⟨pb, po, hap, _⟩ := hrR.resolve_left hne
            subst hap
            subst hRS
            have hTk := take_any (some ⟨pb, po, none⟩) (D V ++ S) cp wr hrR (bytes_append (D_byte hVb.1 hVb.2) hSb) hcR (by unfold maxLen; omega)
            rw [tak_back hVb.1 hVb.2 S] at hTk
            unfold takV at hTk
            have HTK : Hid _ := hTk
            have HS : Hid (S = (ls.drop (q + 1)).flatMap D) := hS
            have hRest := fun (ao : Option Addr) (h : ¬ cp = (D V).length → ao = some ⟨pb, po + (D V).length, none⟩) => Row.rest hrR rfl hcR h
            have HRest : Hid _ := hRest
            obtain ⟨L, hL⟩ : ∃ L, L = (D V ++ S).length := ⟨_, rfl⟩
            obtain ⟨m, hmV⟩ : ∃ m, m = (D V).length := ⟨_, rfl⟩
            rw [← hL] at hcR HTK ⊢
            rw [← hmV] at hDl HTK HRest hRl
            have hLm : L = m + S.length := by omega
            have HL : Hid (L = m + S.length) := hLm
            have hmL : m ≤ L := by omega
            subst hal
            clear hV hcl hR hS hRl hSb hne hrR hTk hRest hL hmV hLm hrw
            go_wp2_with (go_at_call 15; refine Calls.mono HTK.out ?_; rintro e w9 ⟨rfl, rfl⟩)
            go_round
            case rel => exact ⟨q + 1, _, _, S, by omega, by go_num, by rw [show L - m = S.length by have := HL.out; omega], HS.out, HRest.out _ (by intro h; simp [h]), by have := HL.out; omega, by omega⟩
            case measure => simp [intOf]; omega
          · have hq' : q = j := by omega
            have hR0 : R = [] := by rw [hR, hq', HN.out]; simp
            subst hR0
            clear hR hq'
            go_wp2
            go_ret
            exact ⟨rfl, hbW⟩
end Go.Proofs.Ytomfbgeolflenaa

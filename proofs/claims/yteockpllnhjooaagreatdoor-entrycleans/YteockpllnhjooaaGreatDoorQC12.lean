/-
  CutKit.
-/
import Derived.Test.YteockpllnhjooaaGreatDoorQC09
import Derived.Test.YteockpllnhjooaaGreatDoorQC10
import Derived.Test.YteockpllnhjooaaGreatDoorQC01
import Derived.Test.YteockpllnhjooaaGreatDoorQC11
namespace Go.Proofs.YteockpllnhjooaaGreatDoor
open Go.RowKit NumMath
open AddrMath (pre post is No Ends cut3 colon splitD)
set_option maxRecDepth 100000
set_option linter.unusedVariables false
set_option linter.unusedSimpArgs false

/-- The library's own variable holds some number. -/
def MaxLen (w : World) : Prop := ∃ m, w.cell? ⟨3, 0, none⟩ = some (.int .i64 m)
theorem MaxLen.later {w w' : World} (h : MaxLen w) (hb : Below w.heap.size w w') : MaxLen w' := by
  obtain ⟨m, hm⟩ := h
  exact ⟨m, cell_later hm hb⟩
theorem MaxLen.drewN {w : World} (h : MaxLen w) (n : Nat) : MaxLen (w.drewN n) := h
abbrev u8 (l : List Nat) : List UInt8 := l.map fun n => UInt8.ofNat n
theorem ofNat_eq {x y : Nat} (hx : x < 256) (hy : y < 256) : (UInt8.ofNat x == UInt8.ofNat y) = (x == y) := by
  by_cases h : x = y
  · subst h; simp
  · have : UInt8.ofNat x ≠ UInt8.ofNat y := fun e => h (by have := congrArg UInt8.toNat e; simp at this; omega)
    rw [beq_eq_false_iff_ne.2 this, beq_eq_false_iff_ne.2 h]
theorem prefix_u8 : ∀ {p l : List Nat}, (∀ c ∈ p, c < 256) → (∀ c ∈ l, c < 256) → (u8 p).isPrefixOf (u8 l) = p.isPrefixOf l
  | [], _, _, _ => by simp [List.isPrefixOf]
  | x :: p, [], _, _ => by simp [List.isPrefixOf]
  | x :: p, y :: l, hp, hl => by
    show (UInt8.ofNat x == UInt8.ofNat y && (u8 p).isPrefixOf (u8 l)) = (x == y && p.isPrefixOf l)
    rw [ofNat_eq (hp x (by simp)) (hl y (by simp)), prefix_u8 (fun c hc => hp c (by simp [hc])) (fun c hc => hl c (by simp [hc]))]
theorem index_one {c : Nat} (hc : c < 256) : ∀ {l : List Nat}, (∀ x ∈ l, x < 256) → Lib.index (u8 l) (u8 [c]) = if post (is c) l = [] then -1 else ((pre (is c) l).length : Int)
  | [], _ => by simp [Lib.index, post]
  | x :: t, h => by
    have ih := index_one hc (l := t) (fun y hy => h y (by simp [hy]))
    have e : (u8 [c]).isPrefixOf (u8 (x :: t)) = (c == x) := by
      rw [prefix_u8 (by simpa using hc) h]; simp [List.isPrefixOf]
    show (if (u8 [c]).isPrefixOf (u8 (x :: t)) then (0 : Int) else if Lib.index (u8 t) (u8 [c]) == -1 then -1 else Lib.index (u8 t) (u8 [c]) + 1) = _
    rw [e, ih, AddrMath.post_cons, AddrMath.pre_cons]
    by_cases hx : x = c
    · subst hx; simp [is]
    · have h1 : (c == x) = false := by simpa using fun e => hx e.symm
      have h2 : is c x = false := by simpa [is] using hx
      rw [h1, h2]
      simp only [Bool.false_eq_true, if_false]
      split
      · simp
      · rw [if_neg (by simp)]; simp
theorem index_colon : ∀ {l : List Nat}, (∀ x ∈ l, x < 256) → Lib.index (u8 l) (u8 colon) = match cut3 l with | none => -1 | some y => (y.1.length : Int)
  | [], _ => by rfl
  | x :: t, h => by
    have ih := index_colon (l := t) (fun y hy => h y (by simp [hy]))
    have e : (u8 colon).isPrefixOf (u8 (x :: t)) = colon.isPrefixOf (x :: t) := prefix_u8 (by decide) h
    show (if (u8 colon).isPrefixOf (u8 (x :: t)) then (0 : Int) else if Lib.index (u8 t) (u8 colon) == -1 then -1 else Lib.index (u8 t) (u8 colon) + 1) = _
    rw [e, ih, AddrMath.cut3_cons]
    split
    · rfl
    · cases cut3 t with
      | none => rfl
      | some y =>
        show (if ((y.1.length : Int) == -1) = true then (-1 : Int) else (y.1.length : Int) + 1) = _
        rw [if_neg (by simp)]; simp
theorem str_u8 (l : List Nat) : (⟨(u8 l).toArray⟩ : ByteArray) = strN l := rfl
/-- Cut at a byte. -/
theorem cut1_any (c : Nat) (hc : c < 256) (l : List Nat) (hl : ∀ x ∈ l, x < 256) (w : World) (ht : MaxLen w) (hs : l.length ≤ 1000000000) :
    Calls Tryz.prog 45 #[.string (strN l), .string (strN [c])] w fun e w' => e = .returned (.tuple #[.string (strN (pre (is c) l)), .string (strN (post (is c) l).tail), .bool (!(post (is c) l).isEmpty)]) ∧ Below w.heap.size w w' := by
  obtain ⟨m, hm⟩ := ht
  refine (strings_Cut (strN l) (strN [c]) m w (by rw [strN_size]; omega) hm).mono ?_
  rintro e w' ⟨rfl, n, rfl⟩
  refine ⟨?_, Below.drewN (Below.refl _ _) n⟩
  rw [strN_data, strN_data]
  have hi := index_one hc hl
  unfold Lib.cut
  rw [hi]
  by_cases hp : post (is c) l = []
  · rw [if_pos hp, if_neg (by decide), hp]
    have : pre (is c) l = l := by have := AddrMath.pre_post (is c) l; rw [hp, List.append_nil] at this; exact this
    rw [this]; rfl
  · rw [if_neg hp, if_pos (by omega)]
    have h1 : ((u8 l).take (pre (is c) l).length) = u8 (pre (is c) l) := by rw [← List.map_take, AddrMath.pre_take]
    have h2 : ((u8 l).drop ((pre (is c) l).length + 1)) = u8 (post (is c) l).tail := by
      rw [← List.map_drop, ← List.drop_drop, AddrMath.post_drop, List.drop_one]
    have h3 : (post (is c) l).isEmpty = false := by simpa using hp
    show Ending.returned (.tuple #[.string ⟨((u8 l).take (((pre (is c) l).length : Int)).toNat).toArray⟩, .string ⟨((u8 l).drop (((pre (is c) l).length : Int).toNat + 1)).toArray⟩, .bool true]) = _
    rw [Int.toNat_natCast, h1, h2, h3]
    rfl
/-- What Cut at "://" answers. -/
def cutV (l : List Nat) : Value := match cut3 l with | none => .tuple #[.string (strN l), .string (strN []), .bool false] | some y => .tuple #[.string (strN y.1), .string (strN y.2), .bool true]
/-- Cut at "://". -/
theorem cutC_any (l : List Nat) (hl : ∀ x ∈ l, x < 256) (w : World) (ht : MaxLen w) (hs : l.length ≤ 1000000000) :
    Calls Tryz.prog 45 #[.string (strN l), .string (strN colon)] w fun e w' => e = .returned (cutV l) ∧ Below w.heap.size w w' := by
  obtain ⟨m, hm⟩ := ht
  refine (strings_Cut (strN l) (strN colon) m w (by rw [strN_size]; omega) hm).mono ?_
  rintro e w' ⟨rfl, n, rfl⟩
  refine ⟨?_, Below.drewN (Below.refl _ _) n⟩
  rw [strN_data, strN_data]
  have hi := index_colon hl
  unfold Lib.cut cutV
  rw [hi]
  cases hc : cut3 l with
  | none => rw [if_neg (by decide)]; rfl
  | some y =>
    have e := AddrMath.cut3_some (s := l) (a := y.1) (b := y.2) hc
    show Ending.returned (.tuple #[.string ⟨(if (0 : Int) ≤ (y.1.length : Int) then _ else _ : List UInt8 × List UInt8 × Bool).1.toArray⟩, _, _]) = _
    rw [if_pos (by omega)]
    have h1 : (u8 l).take y.1.length = u8 y.1 := by rw [← List.map_take, e]; simp
    have h2 : (u8 l).drop (y.1.length + 3) = u8 y.2 := by
      rw [← List.map_drop, e, ← List.append_assoc]
      have : y.1.length + 3 = (y.1 ++ colon).length := by simp [colon]
      rw [this, List.drop_left]
    show Ending.returned (.tuple #[.string ⟨((u8 l).take ((y.1.length : Int)).toNat).toArray⟩, .string ⟨((u8 l).drop ((y.1.length : Int).toNat + 3)).toArray⟩, .bool true]) = _
    rw [Int.toNat_natCast, h1, h2]
    rfl
theorem hasPrefix_any (l p : List Nat) (hl : ∀ x ∈ l, x < 256) (hp : ∀ x ∈ p, x < 256) (w : World) :
    Calls Tryz.prog 80 #[.string (strN l), .string (strN p)] w fun e w' => e = .returned (.bool (p.isPrefixOf l)) ∧ w' = w := by
  refine (strings_HasPrefix (strN l) (strN p) w).mono ?_
  rintro e w' ⟨rfl, rfl⟩
  refine ⟨?_, rfl⟩
  rw [strN_data, strN_data]
  unfold Lib.hasPrefix
  exact ret_bool (prefix_u8 hp hl)
theorem hasSuffix_any (l p : List Nat) (hl : ∀ x ∈ l, x < 256) (hp : ∀ x ∈ p, x < 256) (hs : l.length ≤ 1000000000) (w : World) :
    Calls Tryz.prog 112 #[.string (strN l), .string (strN p)] w fun e w' => e = .returned (.bool (p.isSuffixOf l)) ∧ w' = w := by
  refine (strings_HasSuffix (strN l) (strN p) w (by rw [strN_size]; omega)).mono ?_
  rintro e w' ⟨rfl, rfl⟩
  refine ⟨?_, rfl⟩
  rw [strN_data, strN_data]
  unfold Lib.hasSuffix
  refine ret_bool ?_
  unfold List.isSuffixOf
  rw [← List.map_reverse, ← List.map_reverse]
  exact prefix_u8 (fun c hc => hp c (by simpa using hc)) (fun c hc => hl c (by simpa using hc))
/-- Split at a byte. -/
theorem split_u8 {c : Nat} (hc : c < 256) : ∀ (k : Nat) (l : List Nat), (∀ x ∈ l, x < 256) → (splitD c l).length ≤ k + 1 → Lib.splitK (u8 [c]) 0 k (u8 l) = (splitD c l).map u8
  | 0, l, hl, hk => by
    have hn : No (is c) l := by
      intro x hx
      rcases Decidable.em (post (is c) l = []) with h | h
      · have := AddrMath.pre_no (is c) l
        have e := AddrMath.pre_post (is c) l
        rw [h, List.append_nil] at e
        rw [e] at this
        exact this x hx
      · exfalso
        rcases AddrMath.post_cases (is c) l with h' | ⟨d, t, h', hd⟩
        · exact h h'
        · have e := AddrMath.pre_post (is c) l
          have hd' : d = c := by simpa [is] using hd
          rw [h', hd'] at e
          rw [← e, AddrMath.splitD_hit t (AddrMath.pre_no _ _)] at hk
          have := List.length_pos_iff.2 (AddrMath.splitD_ne c t)
          rw [List.length_cons] at hk
          omega
    rw [AddrMath.splitD_none hn]; rfl
  | k + 1, l, hl, hk => by
    unfold Lib.splitK
    have hi := index_one hc hl
    rcases AddrMath.post_cases (is c) l with h | ⟨d, t, h, hd⟩
    · rw [if_pos h] at hi
      rw [if_pos (by rw [hi]; rfl)]
      have hn : No (is c) l := by
        have := AddrMath.pre_no (is c) l
        have e := AddrMath.pre_post (is c) l
        rw [h, List.append_nil] at e
        rwa [e] at this
      rw [AddrMath.splitD_none hn]; rfl
    · have hd' : d = c := by simpa [is] using hd
      subst hd'
      rw [if_neg (by rw [h]; simp)] at hi
      rw [if_neg (by rw [hi]; simp), hi]
      have e := AddrMath.pre_post (is d) l
      rw [h] at e
      have hsp : splitD d l = pre (is d) l :: splitD d t := by rw [← AddrMath.splitD_hit t (AddrMath.pre_no _ _), e]
      have hlen : (pre (is d) l).length + 1 = (pre (is d) l ++ [d]).length := by simp
      have h1 : (u8 l).take ((((pre (is d) l).length : Int)).toNat + 0) = u8 (pre (is d) l) := by
        rw [Int.toNat_natCast, Nat.add_zero, ← List.map_take, AddrMath.pre_take]
      have h2 : (u8 l).drop ((((pre (is d) l).length : Int)).toNat + (u8 [d]).length) = u8 t := by
        show (u8 l).drop ((((pre (is d) l).length : Int)).toNat + 1) = u8 t
        rw [Int.toNat_natCast, ← List.map_drop, ← List.drop_drop, AddrMath.post_drop, h]; rfl
      rw [h1, h2, hsp]
      have ht : ∀ x ∈ t, x < 256 := fun x hx => hl x (by rw [← e]; simp [hx])
      rw [hsp] at hk
      rw [split_u8 hc k t ht (by simp at hk; omega)]
      rfl
theorem count_u8 {c : Nat} (hc : c < 256) : ∀ {l : List Nat}, (∀ x ∈ l, x < 256) → (u8 l).count (UInt8.ofNat c) = l.count c
  | [], _ => rfl
  | x :: t, h => by
    show (UInt8.ofNat x :: u8 t).count (UInt8.ofNat c) = _
    rw [List.count_cons, List.count_cons, count_u8 hc (fun y hy => h y (by simp [hy])), ofNat_eq (h x (by simp)) hc]
theorem split_any (c : Nat) (hc : c < 256) (l : List Nat) (hl : ∀ x ∈ l, x < 256) (w : World) (ht : MaxLen w) (hs : l.length ≤ 1000000000) :
    Calls Tryz.prog 95 #[.string (strN l), .string (strN [c])] w fun e w' => e = .returned (.slice (some ⟨w.heap.size, 0, none⟩) (splitD c l).length (splitD c l).length) ∧ Below w.heap.size w w' ∧ VRow w' (some ⟨w.heap.size, 0, none⟩) (sv (splitD c l)) := by
  obtain ⟨m, hm⟩ := ht
  have hlen := Lib.splitB_all (strN [c]) (by rw [strN_size]; simp) 0 _ (strN l) rfl
  have hd := Lib.splitB_data (strN [c]) 0 (Lib.countB (strN l) (strN [c])) (strN l)
  refine (strings_Split (strN l) (strN [c]) m w (by rw [strN_size]; omega) hm (by rw [strN_size]; simp)).mono ?_
  rintro e w' ⟨rfl, rfl⟩
  have hk : (splitD c l).length ≤ Lib.countB (strN l) (strN [c]) + 1 := by
    have h1 : Lib.countB (strN l) (strN [c]) = l.count c := by
      show Lib.count (strN l).data.toList (strN [c]).data.toList = _
      rw [strN_data, strN_data]
      show Lib.count _ [UInt8.ofNat c] = _
      rw [Lib.count_one]
      exact count_u8 hc hl
    rw [h1, AddrMath.splitD_count]
    exact Nat.le_refl _
  rw [strN_data, strN_data, split_u8 hc _ l hl hk] at hd
  have hll : (Lib.splitB (strN [c]) 0 (Lib.countB (strN l) (strN [c])) (strN l)).length = (splitD c l).length := by
    have := congrArg List.length hd
    simpa using this
  have hsv : (Lib.splitB (strN [c]) 0 (Lib.countB (strN l) (strN [c])) (strN l)).map Value.string = sv (splitD c l) := by
    apply List.ext_getElem?
    intro i
    have h1 := congrArg (fun x : List (List UInt8) => x[i]?) hd
    simp only [List.getElem?_map] at h1
    unfold sv
    rw [List.getElem?_map, List.getElem?_map]
    rcases hx : (Lib.splitB (strN [c]) 0 (Lib.countB (strN l) (strN [c])) (strN l))[i]? with _ | x
    · rw [hx] at h1
      rcases hy : (splitD c l)[i]? with _ | y
      · rfl
      · rw [hy] at h1; cases h1
    · rw [hx] at h1
      rcases hy : (splitD c l)[i]? with _ | y
      · rw [hy] at h1; cases h1
      · rw [hy] at h1
        have h2 : x.data.toList = u8 y := Option.some.inj h1
        have h3 : x = strN y := by
          apply ByteArray.ext; apply Array.toList_inj.1
          rw [h2, strN_data]
        rw [h3]; rfl
  refine ⟨?_, (Below.refl _ _).alloc (Nat.le_refl _) _, .inr ⟨w.heap.size, 0, rfl, fun i v hi => ?_⟩⟩
  · rw [← hll, hlen]
  · rw [hsv, Nat.zero_add]
    have hil : i < (sv (splitD c l)).length := (List.getElem?_eq_some_iff.1 hi).1
    have : (w.alloc (.cells (sv (splitD c l)).toArray 9)).cell? ⟨w.heap.size, i, none⟩ = (sv (splitD c l))[i]? := by simp
    rw [this, hi]
end Go.Proofs.YteockpllnhjooaaGreatDoor

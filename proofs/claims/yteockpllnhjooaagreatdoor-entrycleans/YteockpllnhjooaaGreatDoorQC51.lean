/-
  FnBent.
-/
import Derived.Test.YteockpllnhjooaaGreatDoorQC07
import Derived.Test.YteockpllnhjooaaGreatDoorQC01
import Derived.Test.YteockpllnhjooaaGreatDoorQC23
import Derived.Deep.Cut
namespace Go.Proofs.YteockpllnhjooaaGreatDoor
open Go.RowKit NumMath
open EntMath (E)
set_option maxRecDepth 100000
set_option linter.unusedVariables false
set_option linter.unusedSimpArgs false
attribute [-simp] Tryz.isAgg35 Tryz.zeroValue35

def bentE (k : Nat) (e : E) (n : Int) (s : List Nat) : E :=
  if k = 10 then { e with feed := s } else if k = 11 then { e with guid := s } else if k = 12 then { e with title := s } else if k = 13 then { e with link := s } else if k = 14 then { e with body := s } else { e with time := n }

set_option maxHeartbeats 8000000 in
theorem bent10_any (v : Ev) (n : Int) (s : List Nat) (w : World) (hid : v.id.length = 32) (hs : v.seen.oneCell' = true) :
    Calls Tryz.prog 8 #[.agg (evL v).toArray, .int .u8 10, .int .i64 n, .string (strN s)] w fun r w' => r = .returned (.agg (evL { v with entry := { v.entry with feed := s } }).toArray) ∧ Below w.heap.size w w' := by
  obtain ⟨z35, i35⟩ := zero_of_info zeroEv
  obtain ⟨Z, hZ⟩ : ∃ Z, Z = evL (evZ EntMath.zero) := ⟨_, rfl⟩
  rw [← hZ] at z35
  have HZl : Hid (Z.length = 48) := by show _ = _; rw [hZ]; exact evL_len (by simp [evZ])
  obtain ⟨V, hV⟩ : ∃ V, V = evL v := ⟨_, rfl⟩
  have HVl : Hid (V.length = 48) := by show _ = _; rw [hV]; exact evL_len hid
  have HSet : Hid (V.set 9 (.string (strN s)) = evL { v with entry := { v.entry with feed := s } }) := by show _ = _; rw [hV]; rfl
  have HCell : Hid (V[9]? = some (.string (strN v.entry.feed))) := by show _ = _; rw [hV]; rfl
  rw [← hV]
  have HOne : Hid (∀ x ∈ evL { v with entry := { v.entry with feed := s } }, x.oneCell' = true) := evL_one hs
  have HNl : Hid ((evL { v with entry := { v.entry with feed := s } }).length = 48) := evL_len hid
  generalize evL { v with entry := { v.entry with feed := s } } = N at *
  have HA0 : Hid (Arr ((w.alloc (.cells V.toArray 35)).alloc (.cells Z.toArray 35)) w.heap.size 35 V) := Arr.alloc (Arr.new w 35 V rfl) _
  have HR0 : Hid (Arr ((w.alloc (.cells V.toArray 35)).alloc (.cells Z.toArray 35)) (w.heap.size + 1) 35 Z) := Arr.new _ _ Z (by simp)
  have HB0 : Hid (Below w.heap.size w ((w.alloc (.cells V.toArray 35)).alloc (.cells Z.toArray 35))) := ((Below.refl _ _).alloc (Nat.le_refl _) _).alloc (by simp) _
  clear hZ hV i35 hid hs
  go_enter Tryz.func8, Tryz.ntmps8
  go_upto_region 1 with (fail)
  generalize World.alloc (World.alloc w _) _ = W0 at *
  generalize hG : w.heap.size + 1 = G at *
  have hGw : w.heap.size ≤ G := by omega
  have hGn : G ≠ w.heap.size := by omega
  clear hG
  have hc := (Arr.cell HA0.out 9).trans HCell.out
  have hf := Arr.frozen HA0.out 9
  have hlt := Arr.lt HA0.out
  have HA1 : Hid (Arr (W0.setCell ⟨w.heap.size, 9, none⟩ (.string (strN s))) w.heap.size 35 N) := by
    have := Arr.set HA0.out 9 (.string (strN s))
    rw [HSet.out] at this
    exact this
  have HR1 : Hid (Arr (W0.setCell ⟨w.heap.size, 9, none⟩ (.string (strN s))) G 35 Z) := Arr.set_other HR0.out _ (by show G ≠ w.heap.size; exact hGn) _
  have HB1 : Hid (Below w.heap.size w (W0.setCell ⟨w.heap.size, 9, none⟩ (.string (strN s)))) := HB0.out.setCell (by show w.heap.size ≤ w.heap.size; exact Nat.le_refl _) _
  clear HA0 HR0 HB0 HSet HCell HVl
  go_upto_region 43 with (fail)
  generalize W0.setCell _ _ = W1 at *
  clear hc hf hlt
  go_wp2_with (first
    | refine wpList_load_mid rfl 35 (.tmp 4) rfl w.heap.size 0 rfl N _ (range_of_arr HA1.out) Tryz.underlying35 rfl (by rw [HNl.out]; exact sizeEv) ?_
    | refine wpList_store_arr rfl 35 (.tmp 8) (.tmp 132) rfl G 35 Z N rfl rfl HR1.out (by rw [HNl.out]; exact sizeEv) (by rw [HZl.out, HNl.out]) HOne.out ?_)
  refine ret_arr G 35 N _ rfl rfl (Arr.row HR1.out) Tryz.underlying35 rfl (by rw [HNl.out]; exact sizeEv) rfl ⟨rfl, below_setRow HB1.out hGw _⟩

set_option maxHeartbeats 8000000 in
theorem bent11_any (v : Ev) (n : Int) (s : List Nat) (w : World) (hid : v.id.length = 32) (hs : v.seen.oneCell' = true) :
    Calls Tryz.prog 8 #[.agg (evL v).toArray, .int .u8 11, .int .i64 n, .string (strN s)] w fun r w' => r = .returned (.agg (evL { v with entry := { v.entry with guid := s } }).toArray) ∧ Below w.heap.size w w' := by
  obtain ⟨z35, i35⟩ := zero_of_info zeroEv
  obtain ⟨Z, hZ⟩ : ∃ Z, Z = evL (evZ EntMath.zero) := ⟨_, rfl⟩
  rw [← hZ] at z35
  have HZl : Hid (Z.length = 48) := by show _ = _; rw [hZ]; exact evL_len (by simp [evZ])
  obtain ⟨V, hV⟩ : ∃ V, V = evL v := ⟨_, rfl⟩
  have HVl : Hid (V.length = 48) := by show _ = _; rw [hV]; exact evL_len hid
  have HSet : Hid (V.set 10 (.string (strN s)) = evL { v with entry := { v.entry with guid := s } }) := by show _ = _; rw [hV]; rfl
  have HCell : Hid (V[10]? = some (.string (strN v.entry.guid))) := by show _ = _; rw [hV]; rfl
  rw [← hV]
  have HOne : Hid (∀ x ∈ evL { v with entry := { v.entry with guid := s } }, x.oneCell' = true) := evL_one hs
  have HNl : Hid ((evL { v with entry := { v.entry with guid := s } }).length = 48) := evL_len hid
  generalize evL { v with entry := { v.entry with guid := s } } = N at *
  have HA0 : Hid (Arr ((w.alloc (.cells V.toArray 35)).alloc (.cells Z.toArray 35)) w.heap.size 35 V) := Arr.alloc (Arr.new w 35 V rfl) _
  have HR0 : Hid (Arr ((w.alloc (.cells V.toArray 35)).alloc (.cells Z.toArray 35)) (w.heap.size + 1) 35 Z) := Arr.new _ _ Z (by simp)
  have HB0 : Hid (Below w.heap.size w ((w.alloc (.cells V.toArray 35)).alloc (.cells Z.toArray 35))) := ((Below.refl _ _).alloc (Nat.le_refl _) _).alloc (by simp) _
  clear hZ hV i35 hid hs
  go_enter Tryz.func8, Tryz.ntmps8
  go_upto_region 1 with (fail)
  generalize World.alloc (World.alloc w _) _ = W0 at *
  generalize hG : w.heap.size + 1 = G at *
  have hGw : w.heap.size ≤ G := by omega
  have hGn : G ≠ w.heap.size := by omega
  clear hG
  have hc := (Arr.cell HA0.out 10).trans HCell.out
  have hf := Arr.frozen HA0.out 10
  have hlt := Arr.lt HA0.out
  have HA1 : Hid (Arr (W0.setCell ⟨w.heap.size, 10, none⟩ (.string (strN s))) w.heap.size 35 N) := by
    have := Arr.set HA0.out 10 (.string (strN s))
    rw [HSet.out] at this
    exact this
  have HR1 : Hid (Arr (W0.setCell ⟨w.heap.size, 10, none⟩ (.string (strN s))) G 35 Z) := Arr.set_other HR0.out _ (by show G ≠ w.heap.size; exact hGn) _
  have HB1 : Hid (Below w.heap.size w (W0.setCell ⟨w.heap.size, 10, none⟩ (.string (strN s)))) := HB0.out.setCell (by show w.heap.size ≤ w.heap.size; exact Nat.le_refl _) _
  clear HA0 HR0 HB0 HSet HCell HVl
  go_upto_region 43 with (fail)
  generalize W0.setCell _ _ = W1 at *
  clear hc hf hlt
  go_wp2_with (first
    | refine wpList_load_mid rfl 35 (.tmp 4) rfl w.heap.size 0 rfl N _ (range_of_arr HA1.out) Tryz.underlying35 rfl (by rw [HNl.out]; exact sizeEv) ?_
    | refine wpList_store_arr rfl 35 (.tmp 8) (.tmp 132) rfl G 35 Z N rfl rfl HR1.out (by rw [HNl.out]; exact sizeEv) (by rw [HZl.out, HNl.out]) HOne.out ?_)
  refine ret_arr G 35 N _ rfl rfl (Arr.row HR1.out) Tryz.underlying35 rfl (by rw [HNl.out]; exact sizeEv) rfl ⟨rfl, below_setRow HB1.out hGw _⟩

set_option maxHeartbeats 8000000 in
theorem bent12_any (v : Ev) (n : Int) (s : List Nat) (w : World) (hid : v.id.length = 32) (hs : v.seen.oneCell' = true) :
    Calls Tryz.prog 8 #[.agg (evL v).toArray, .int .u8 12, .int .i64 n, .string (strN s)] w fun r w' => r = .returned (.agg (evL { v with entry := { v.entry with title := s } }).toArray) ∧ Below w.heap.size w w' := by
  obtain ⟨z35, i35⟩ := zero_of_info zeroEv
  obtain ⟨Z, hZ⟩ : ∃ Z, Z = evL (evZ EntMath.zero) := ⟨_, rfl⟩
  rw [← hZ] at z35
  have HZl : Hid (Z.length = 48) := by show _ = _; rw [hZ]; exact evL_len (by simp [evZ])
  obtain ⟨V, hV⟩ : ∃ V, V = evL v := ⟨_, rfl⟩
  have HVl : Hid (V.length = 48) := by show _ = _; rw [hV]; exact evL_len hid
  have HSet : Hid (V.set 11 (.string (strN s)) = evL { v with entry := { v.entry with title := s } }) := by show _ = _; rw [hV]; rfl
  have HCell : Hid (V[11]? = some (.string (strN v.entry.title))) := by show _ = _; rw [hV]; rfl
  rw [← hV]
  have HOne : Hid (∀ x ∈ evL { v with entry := { v.entry with title := s } }, x.oneCell' = true) := evL_one hs
  have HNl : Hid ((evL { v with entry := { v.entry with title := s } }).length = 48) := evL_len hid
  generalize evL { v with entry := { v.entry with title := s } } = N at *
  have HA0 : Hid (Arr ((w.alloc (.cells V.toArray 35)).alloc (.cells Z.toArray 35)) w.heap.size 35 V) := Arr.alloc (Arr.new w 35 V rfl) _
  have HR0 : Hid (Arr ((w.alloc (.cells V.toArray 35)).alloc (.cells Z.toArray 35)) (w.heap.size + 1) 35 Z) := Arr.new _ _ Z (by simp)
  have HB0 : Hid (Below w.heap.size w ((w.alloc (.cells V.toArray 35)).alloc (.cells Z.toArray 35))) := ((Below.refl _ _).alloc (Nat.le_refl _) _).alloc (by simp) _
  clear hZ hV i35 hid hs
  go_enter Tryz.func8, Tryz.ntmps8
  go_upto_region 1 with (fail)
  generalize World.alloc (World.alloc w _) _ = W0 at *
  generalize hG : w.heap.size + 1 = G at *
  have hGw : w.heap.size ≤ G := by omega
  have hGn : G ≠ w.heap.size := by omega
  clear hG
  have hc := (Arr.cell HA0.out 11).trans HCell.out
  have hf := Arr.frozen HA0.out 11
  have hlt := Arr.lt HA0.out
  have HA1 : Hid (Arr (W0.setCell ⟨w.heap.size, 11, none⟩ (.string (strN s))) w.heap.size 35 N) := by
    have := Arr.set HA0.out 11 (.string (strN s))
    rw [HSet.out] at this
    exact this
  have HR1 : Hid (Arr (W0.setCell ⟨w.heap.size, 11, none⟩ (.string (strN s))) G 35 Z) := Arr.set_other HR0.out _ (by show G ≠ w.heap.size; exact hGn) _
  have HB1 : Hid (Below w.heap.size w (W0.setCell ⟨w.heap.size, 11, none⟩ (.string (strN s)))) := HB0.out.setCell (by show w.heap.size ≤ w.heap.size; exact Nat.le_refl _) _
  clear HA0 HR0 HB0 HSet HCell HVl
  go_upto_region 43 with (fail)
  generalize W0.setCell _ _ = W1 at *
  clear hc hf hlt
  go_wp2_with (first
    | refine wpList_load_mid rfl 35 (.tmp 4) rfl w.heap.size 0 rfl N _ (range_of_arr HA1.out) Tryz.underlying35 rfl (by rw [HNl.out]; exact sizeEv) ?_
    | refine wpList_store_arr rfl 35 (.tmp 8) (.tmp 132) rfl G 35 Z N rfl rfl HR1.out (by rw [HNl.out]; exact sizeEv) (by rw [HZl.out, HNl.out]) HOne.out ?_)
  refine ret_arr G 35 N _ rfl rfl (Arr.row HR1.out) Tryz.underlying35 rfl (by rw [HNl.out]; exact sizeEv) rfl ⟨rfl, below_setRow HB1.out hGw _⟩

set_option maxHeartbeats 8000000 in
theorem bent13_any (v : Ev) (n : Int) (s : List Nat) (w : World) (hid : v.id.length = 32) (hs : v.seen.oneCell' = true) :
    Calls Tryz.prog 8 #[.agg (evL v).toArray, .int .u8 13, .int .i64 n, .string (strN s)] w fun r w' => r = .returned (.agg (evL { v with entry := { v.entry with link := s } }).toArray) ∧ Below w.heap.size w w' := by
  obtain ⟨z35, i35⟩ := zero_of_info zeroEv
  obtain ⟨Z, hZ⟩ : ∃ Z, Z = evL (evZ EntMath.zero) := ⟨_, rfl⟩
  rw [← hZ] at z35
  have HZl : Hid (Z.length = 48) := by show _ = _; rw [hZ]; exact evL_len (by simp [evZ])
  obtain ⟨V, hV⟩ : ∃ V, V = evL v := ⟨_, rfl⟩
  have HVl : Hid (V.length = 48) := by show _ = _; rw [hV]; exact evL_len hid
  have HSet : Hid (V.set 12 (.string (strN s)) = evL { v with entry := { v.entry with link := s } }) := by show _ = _; rw [hV]; rfl
  have HCell : Hid (V[12]? = some (.string (strN v.entry.link))) := by show _ = _; rw [hV]; rfl
  rw [← hV]
  have HOne : Hid (∀ x ∈ evL { v with entry := { v.entry with link := s } }, x.oneCell' = true) := evL_one hs
  have HNl : Hid ((evL { v with entry := { v.entry with link := s } }).length = 48) := evL_len hid
  generalize evL { v with entry := { v.entry with link := s } } = N at *
  have HA0 : Hid (Arr ((w.alloc (.cells V.toArray 35)).alloc (.cells Z.toArray 35)) w.heap.size 35 V) := Arr.alloc (Arr.new w 35 V rfl) _
  have HR0 : Hid (Arr ((w.alloc (.cells V.toArray 35)).alloc (.cells Z.toArray 35)) (w.heap.size + 1) 35 Z) := Arr.new _ _ Z (by simp)
  have HB0 : Hid (Below w.heap.size w ((w.alloc (.cells V.toArray 35)).alloc (.cells Z.toArray 35))) := ((Below.refl _ _).alloc (Nat.le_refl _) _).alloc (by simp) _
  clear hZ hV i35 hid hs
  go_enter Tryz.func8, Tryz.ntmps8
  go_upto_region 1 with (fail)
  generalize World.alloc (World.alloc w _) _ = W0 at *
  generalize hG : w.heap.size + 1 = G at *
  have hGw : w.heap.size ≤ G := by omega
  have hGn : G ≠ w.heap.size := by omega
  clear hG
  have hc := (Arr.cell HA0.out 12).trans HCell.out
  have hf := Arr.frozen HA0.out 12
  have hlt := Arr.lt HA0.out
  have HA1 : Hid (Arr (W0.setCell ⟨w.heap.size, 12, none⟩ (.string (strN s))) w.heap.size 35 N) := by
    have := Arr.set HA0.out 12 (.string (strN s))
    rw [HSet.out] at this
    exact this
  have HR1 : Hid (Arr (W0.setCell ⟨w.heap.size, 12, none⟩ (.string (strN s))) G 35 Z) := Arr.set_other HR0.out _ (by show G ≠ w.heap.size; exact hGn) _
  have HB1 : Hid (Below w.heap.size w (W0.setCell ⟨w.heap.size, 12, none⟩ (.string (strN s)))) := HB0.out.setCell (by show w.heap.size ≤ w.heap.size; exact Nat.le_refl _) _
  clear HA0 HR0 HB0 HSet HCell HVl
  go_upto_region 43 with (fail)
  generalize W0.setCell _ _ = W1 at *
  clear hc hf hlt
  go_wp2_with (first
    | refine wpList_load_mid rfl 35 (.tmp 4) rfl w.heap.size 0 rfl N _ (range_of_arr HA1.out) Tryz.underlying35 rfl (by rw [HNl.out]; exact sizeEv) ?_
    | refine wpList_store_arr rfl 35 (.tmp 8) (.tmp 132) rfl G 35 Z N rfl rfl HR1.out (by rw [HNl.out]; exact sizeEv) (by rw [HZl.out, HNl.out]) HOne.out ?_)
  refine ret_arr G 35 N _ rfl rfl (Arr.row HR1.out) Tryz.underlying35 rfl (by rw [HNl.out]; exact sizeEv) rfl ⟨rfl, below_setRow HB1.out hGw _⟩

set_option maxHeartbeats 8000000 in
theorem bent14_any (v : Ev) (n : Int) (s : List Nat) (w : World) (hid : v.id.length = 32) (hs : v.seen.oneCell' = true) :
    Calls Tryz.prog 8 #[.agg (evL v).toArray, .int .u8 14, .int .i64 n, .string (strN s)] w fun r w' => r = .returned (.agg (evL { v with entry := { v.entry with body := s } }).toArray) ∧ Below w.heap.size w w' := by
  obtain ⟨z35, i35⟩ := zero_of_info zeroEv
  obtain ⟨Z, hZ⟩ : ∃ Z, Z = evL (evZ EntMath.zero) := ⟨_, rfl⟩
  rw [← hZ] at z35
  have HZl : Hid (Z.length = 48) := by show _ = _; rw [hZ]; exact evL_len (by simp [evZ])
  obtain ⟨V, hV⟩ : ∃ V, V = evL v := ⟨_, rfl⟩
  have HVl : Hid (V.length = 48) := by show _ = _; rw [hV]; exact evL_len hid
  have HSet : Hid (V.set 13 (.string (strN s)) = evL { v with entry := { v.entry with body := s } }) := by show _ = _; rw [hV]; rfl
  have HCell : Hid (V[13]? = some (.string (strN v.entry.body))) := by show _ = _; rw [hV]; rfl
  rw [← hV]
  have HOne : Hid (∀ x ∈ evL { v with entry := { v.entry with body := s } }, x.oneCell' = true) := evL_one hs
  have HNl : Hid ((evL { v with entry := { v.entry with body := s } }).length = 48) := evL_len hid
  generalize evL { v with entry := { v.entry with body := s } } = N at *
  have HA0 : Hid (Arr ((w.alloc (.cells V.toArray 35)).alloc (.cells Z.toArray 35)) w.heap.size 35 V) := Arr.alloc (Arr.new w 35 V rfl) _
  have HR0 : Hid (Arr ((w.alloc (.cells V.toArray 35)).alloc (.cells Z.toArray 35)) (w.heap.size + 1) 35 Z) := Arr.new _ _ Z (by simp)
  have HB0 : Hid (Below w.heap.size w ((w.alloc (.cells V.toArray 35)).alloc (.cells Z.toArray 35))) := ((Below.refl _ _).alloc (Nat.le_refl _) _).alloc (by simp) _
  clear hZ hV i35 hid hs
  go_enter Tryz.func8, Tryz.ntmps8
  go_upto_region 1 with (fail)
  generalize World.alloc (World.alloc w _) _ = W0 at *
  generalize hG : w.heap.size + 1 = G at *
  have hGw : w.heap.size ≤ G := by omega
  have hGn : G ≠ w.heap.size := by omega
  clear hG
  have hc := (Arr.cell HA0.out 13).trans HCell.out
  have hf := Arr.frozen HA0.out 13
  have hlt := Arr.lt HA0.out
  have HA1 : Hid (Arr (W0.setCell ⟨w.heap.size, 13, none⟩ (.string (strN s))) w.heap.size 35 N) := by
    have := Arr.set HA0.out 13 (.string (strN s))
    rw [HSet.out] at this
    exact this
  have HR1 : Hid (Arr (W0.setCell ⟨w.heap.size, 13, none⟩ (.string (strN s))) G 35 Z) := Arr.set_other HR0.out _ (by show G ≠ w.heap.size; exact hGn) _
  have HB1 : Hid (Below w.heap.size w (W0.setCell ⟨w.heap.size, 13, none⟩ (.string (strN s)))) := HB0.out.setCell (by show w.heap.size ≤ w.heap.size; exact Nat.le_refl _) _
  clear HA0 HR0 HB0 HSet HCell HVl
  go_upto_region 43 with (fail)
  generalize W0.setCell _ _ = W1 at *
  clear hc hf hlt
  go_wp2_with (first
    | refine wpList_load_mid rfl 35 (.tmp 4) rfl w.heap.size 0 rfl N _ (range_of_arr HA1.out) Tryz.underlying35 rfl (by rw [HNl.out]; exact sizeEv) ?_
    | refine wpList_store_arr rfl 35 (.tmp 8) (.tmp 132) rfl G 35 Z N rfl rfl HR1.out (by rw [HNl.out]; exact sizeEv) (by rw [HZl.out, HNl.out]) HOne.out ?_)
  refine ret_arr G 35 N _ rfl rfl (Arr.row HR1.out) Tryz.underlying35 rfl (by rw [HNl.out]; exact sizeEv) rfl ⟨rfl, below_setRow HB1.out hGw _⟩

set_option maxHeartbeats 8000000 in
theorem bent15_any (v : Ev) (n : Int) (s : List Nat) (w : World) (hid : v.id.length = 32) (hs : v.seen.oneCell' = true) :
    Calls Tryz.prog 8 #[.agg (evL v).toArray, .int .u8 15, .int .i64 n, .string (strN s)] w fun r w' => r = .returned (.agg (evL { v with entry := { v.entry with time := n } }).toArray) ∧ Below w.heap.size w w' := by
  obtain ⟨z35, i35⟩ := zero_of_info zeroEv
  obtain ⟨Z, hZ⟩ : ∃ Z, Z = evL (evZ EntMath.zero) := ⟨_, rfl⟩
  rw [← hZ] at z35
  have HZl : Hid (Z.length = 48) := by show _ = _; rw [hZ]; exact evL_len (by simp [evZ])
  obtain ⟨V, hV⟩ : ∃ V, V = evL v := ⟨_, rfl⟩
  have HVl : Hid (V.length = 48) := by show _ = _; rw [hV]; exact evL_len hid
  have HSet : Hid (V.set 14 (.int .i64 n) = evL { v with entry := { v.entry with time := n } }) := by show _ = _; rw [hV]; rfl
  have HCell : Hid (V[14]? = some (.int .i64 v.entry.time)) := by show _ = _; rw [hV]; rfl
  rw [← hV]
  have HOne : Hid (∀ x ∈ evL { v with entry := { v.entry with time := n } }, x.oneCell' = true) := evL_one hs
  have HNl : Hid ((evL { v with entry := { v.entry with time := n } }).length = 48) := evL_len hid
  generalize evL { v with entry := { v.entry with time := n } } = N at *
  have HA0 : Hid (Arr ((w.alloc (.cells V.toArray 35)).alloc (.cells Z.toArray 35)) w.heap.size 35 V) := Arr.alloc (Arr.new w 35 V rfl) _
  have HR0 : Hid (Arr ((w.alloc (.cells V.toArray 35)).alloc (.cells Z.toArray 35)) (w.heap.size + 1) 35 Z) := Arr.new _ _ Z (by simp)
  have HB0 : Hid (Below w.heap.size w ((w.alloc (.cells V.toArray 35)).alloc (.cells Z.toArray 35))) := ((Below.refl _ _).alloc (Nat.le_refl _) _).alloc (by simp) _
  clear hZ hV i35 hid hs
  go_enter Tryz.func8, Tryz.ntmps8
  go_upto_region 1 with (fail)
  generalize World.alloc (World.alloc w _) _ = W0 at *
  generalize hG : w.heap.size + 1 = G at *
  have hGw : w.heap.size ≤ G := by omega
  have hGn : G ≠ w.heap.size := by omega
  clear hG
  have hc := (Arr.cell HA0.out 14).trans HCell.out
  have hf := Arr.frozen HA0.out 14
  have hlt := Arr.lt HA0.out
  have HA1 : Hid (Arr (W0.setCell ⟨w.heap.size, 14, none⟩ (.int .i64 n)) w.heap.size 35 N) := by
    have := Arr.set HA0.out 14 (.int .i64 n)
    rw [HSet.out] at this
    exact this
  have HR1 : Hid (Arr (W0.setCell ⟨w.heap.size, 14, none⟩ (.int .i64 n)) G 35 Z) := Arr.set_other HR0.out _ (by show G ≠ w.heap.size; exact hGn) _
  have HB1 : Hid (Below w.heap.size w (W0.setCell ⟨w.heap.size, 14, none⟩ (.int .i64 n))) := HB0.out.setCell (by show w.heap.size ≤ w.heap.size; exact Nat.le_refl _) _
  clear HA0 HR0 HB0 HSet HCell HVl
  go_upto_region 43 with (fail)
  generalize W0.setCell _ _ = W1 at *
  clear hc hf hlt
  go_wp2_with (first
    | refine wpList_load_mid rfl 35 (.tmp 4) rfl w.heap.size 0 rfl N _ (range_of_arr HA1.out) Tryz.underlying35 rfl (by rw [HNl.out]; exact sizeEv) ?_
    | refine wpList_store_arr rfl 35 (.tmp 8) (.tmp 132) rfl G 35 Z N rfl rfl HR1.out (by rw [HNl.out]; exact sizeEv) (by rw [HZl.out, HNl.out]) HOne.out ?_)
  refine ret_arr G 35 N _ rfl rfl (Arr.row HR1.out) Tryz.underlying35 rfl (by rw [HNl.out]; exact sizeEv) rfl ⟨rfl, below_setRow HB1.out hGw _⟩

/-- A right entry of which one field is another one. -/
theorem bentE_any (v : Ev) (k : Nat) (n : Int) (s : List Nat) (w : World) (hid : v.id.length = 32) (hs : v.seen.oneCell' = true) (h0 : 10 ≤ k) (h1 : k ≤ 15) :
    Calls Tryz.prog 8 #[.agg (evL v).toArray, .int .u8 (k : Int), .int .i64 n, .string (strN s)] w fun r w' => r = .returned (.agg (evL { v with entry := bentE k v.entry n s }).toArray) ∧ Below w.heap.size w w' := by
  obtain rfl | rfl | rfl | rfl | rfl | rfl : k = 10 ∨ k = 11 ∨ k = 12 ∨ k = 13 ∨ k = 14 ∨ k = 15 := by omega
  · exact bent10_any v n s w hid hs
  · exact bent11_any v n s w hid hs
  · exact bent12_any v n s w hid hs
  · exact bent13_any v n s w hid hs
  · exact bent14_any v n s w hid hs
  · exact bent15_any v n s w hid hs
theorem bentE_fit {e : E} {k : Nat} {n : Int} {s : List Nat} (h : EFit e) (hs : ∀ c ∈ s, c < 256) (hl : s.length ≤ 900) (hn : -9223372036854775808 ≤ n ∧ n ≤ 9223372036854775807) : EFit (bentE k e n s) := by
  unfold bentE
  split
  · exact ⟨hs, h.f2, h.f3, h.f4, h.f5, by show s.length ≤ 10000; omega, h.l2, h.l3, h.l4, h.l5, h.t0, h.t1⟩
  split
  · exact ⟨h.f1, hs, h.f3, h.f4, h.f5, h.l1, by show s.length ≤ 10000; omega, h.l3, h.l4, h.l5, h.t0, h.t1⟩
  split
  · exact ⟨h.f1, h.f2, hs, h.f4, h.f5, h.l1, h.l2, by show s.length ≤ 10000; omega, h.l4, h.l5, h.t0, h.t1⟩
  split
  · exact ⟨h.f1, h.f2, h.f3, hs, h.f5, h.l1, h.l2, h.l3, by show s.length ≤ 10000; omega, h.l5, h.t0, h.t1⟩
  split
  · exact ⟨h.f1, h.f2, h.f3, h.f4, hs, h.l1, h.l2, h.l3, h.l4, by show s.length ≤ 10000; omega, h.t0, h.t1⟩
  · exact ⟨h.f1, h.f2, h.f3, h.f4, h.f5, h.l1, h.l2, h.l3, h.l4, h.l5, hn.1, hn.2⟩
end Go.Proofs.YteockpllnhjooaaGreatDoor

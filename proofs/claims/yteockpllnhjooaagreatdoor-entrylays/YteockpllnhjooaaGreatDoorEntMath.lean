/-
  Entries, as plain mathematics: their one form, their bytes, what bytes are read as.
-/
import Derived.Test.YteockpllnhjooaaGreatDoorAddrForm
import Derived.Test.YteockpllnhjooaaGreatDoorAddrLens
import Derived.Test.YteockpllnhjooaaGreatDoorTxtLaws
import Derived.Test.YteockpllnhjooaaGreatDoorMathI
namespace EntMath
set_option linter.unusedVariables false
set_option linter.unusedSimpArgs false
open TxtMath (cutB cleanB runes)
open AddrMath (parse)
open NumMath (D tak)

structure E where
  feed : List Nat
  guid : List Nat
  title : List Nat
  link : List Nat
  body : List Nat
  time : Int

def zero : E := ⟨[], [], [], [], [], 0⟩
def linkP (l : List Nat) : List Nat × Nat := if l = [] then ([], 0) else parse l
def guidOf (g l t : List Nat) : List Nat := if g = [] then (if l = [] then t else l) else g
def cleanG (f : List Nat) (kf : Nat) (l : List Nat) (kl : Nat) (g t b : List Nat) (n : Int) : E × Nat :=
  if kf ≠ 0 then (zero, kf) else
  if kl ≠ 0 then (zero, kl) else
  if guidOf g l t = [] then (zero, 26) else
  if 200 < (runes (guidOf g l t)).length then (zero, 23) else
  if n < 0 ∨ 281474976710655 < n then (zero, 24) else
  (⟨f, guidOf g l t, t, l, b, n⟩, 0)
def clean (e : E) : E × Nat := cleanG (parse e.feed).1 (parse e.feed).2 (linkP e.link).1 (linkP e.link).2 (cleanB e.guid) (cutB e.title 120) (cutB e.body 400) e.time
def right (e : E) : Bool := decide ((clean e).2 = 0 ∧ (clean e).1.feed = e.feed ∧ (clean e).1.guid = e.guid ∧ (clean e).1.title = e.title ∧ (clean e).1.link = e.link ∧ (clean e).1.body = e.body ∧ (clean e).1.time = e.time)

theorem cleanG_ok {f l g t b : List Nat} {kf kl : Nat} {n : Int} {x : E} (h : cleanG f kf l kl g t b n = (x, 0)) :
    kf = 0 ∧ kl = 0 ∧ guidOf g l t ≠ [] ∧ (runes (guidOf g l t)).length ≤ 200 ∧ 0 ≤ n ∧ n ≤ 281474976710655 ∧ x = ⟨f, guidOf g l t, t, l, b, n⟩ := by
  unfold cleanG at h
  split at h
  · simp at h; omega
  split at h
  · simp at h; omega
  split at h
  · simp at h
  split at h
  · simp at h
  split at h
  · simp at h
  rename_i h1 h2 h3 h4 h5
  simp at h1 h2 h5
  have := (Prod.mk.inj h).1
  exact ⟨h1, h2, h3, by omega, by omega, by omega, this.symm⟩
theorem cleanG_is {f l g t b : List Nat} {n : Int} (h1 : guidOf g l t ≠ []) (h2 : (runes (guidOf g l t)).length ≤ 200) (h3 : 0 ≤ n) (h4 : n ≤ 281474976710655) :
    cleanG f 0 l 0 g t b n = (⟨f, guidOf g l t, t, l, b, n⟩, 0) := by
  unfold cleanG
  rw [if_neg (by simp), if_neg (by simp), if_neg h1, if_neg (by omega), if_neg (by omega)]
theorem cleanG_err {f l g t b : List Nat} {kf kl : Nat} {n : Int} {x : E} {k : Nat} (h : cleanG f kf l kl g t b n = (x, k)) (hk : k ≠ 0) : x = zero := by
  unfold cleanG at h
  repeat (first | split at h | (have := (Prod.mk.inj h).1; exact this.symm))
  exact absurd (Prod.mk.inj h).2.symm hk

-- letters of an address stay as they are when they are made clean
theorem runes_low : ∀ l : List Nat, (∀ c ∈ l, c < 128) → runes l = l
  | [], _ => rfl
  | c :: t, h => by
    have hc : c < 128 := h c (by simp)
    have ht := runes_low t fun x hx => h x (by simp [hx])
    have he : TxtMath.enc c = [c] := by simp [TxtMath.enc, hc]
    have := TxtMath.runes_enc c t (by simp [TxtMath.valid]; omega)
    rw [he] at this
    simpa [ht] using this
theorem encs_low : ∀ l : List Nat, (∀ c ∈ l, c < 128) → TxtMath.encs l = l
  | [], _ => rfl
  | c :: t, h => by
    have hc : c < 128 := h c (by simp)
    rw [TxtMath.encs_cons, encs_low t fun x hx => h x (by simp [hx])]
    simp [TxtMath.enc, hc]
theorem good_low : ∀ (l : List Nat) (b : Bool), (∀ c ∈ l, 33 ≤ c ∧ c < 127) → TxtMath.good b l = true
  | [], b, _ => by cases b <;> rfl
  | c :: t, b, h => by
    have hc := h c (by simp)
    have ht := good_low t false fun x hx => h x (by simp [hx])
    have hw : TxtMath.white c = false := by
      simp [TxtMath.white]; omega
    have hbare : TxtMath.bare c = false := by
      simp [TxtMath.bare]; omega
    have ht2 := good_low t true fun x hx => h x (by simp [hx])
    have hn : c ≠ 32 := by omega
    simp [TxtMath.good, hw, hbare, ht, hn]
theorem cleanB_low {l : List Nat} (h : ∀ c ∈ l, 33 ≤ c ∧ c < 127) : cleanB l = l := by
  have h1 : ∀ c ∈ l, c < 128 := fun c hc => by have := h c hc; omega
  unfold TxtMath.cleanB
  rw [runes_low l h1, TxtMath.clean_of_good l (good_low l true h) ?_, encs_low l h1]
  intro hl
  have := h 32 (List.mem_of_getLast? hl)
  omega
def Print (l : List Nat) : Prop := ∀ c ∈ l, 33 ≤ c ∧ c < 127
theorem Print.app {a b : List Nat} (ha : Print a) (hb : Print b) : Print (a ++ b) := fun c hc => (List.mem_append.1 hc).elim (ha c) (hb c)
theorem Print.cons {x : Nat} {b : List Nat} (ha : 33 ≤ x ∧ x < 127) (hb : Print b) : Print (x :: b) := fun c hc => by
  rcases List.mem_cons.1 hc with rfl | h
  · exact ha
  · exact hb c h
theorem Print.nil : Print [] := fun c hc => by cases hc
theorem norm_print {q : Bool} {f : List Nat} (h : AddrMath.Norm q f) : Print f := by
  refine AddrMath.Norm.induct (m := fun l => Print l) ?nil ?low ?esc h
  case nil => exact .nil
  case low =>
    intro b t h _ ih
    refine .cons ?_ ih
    rw [Bool.or_eq_true] at h
    rcases h with h | h
    · simp [AddrMath.plain] at h; omega
    · simp [AddrMath.extra, AddrMath.signs] at h; omega
  case esc =>
    intro b t h h2 _ ih
    have h3 := AddrMath.hexD_hexV ⟨b / 16, by omega⟩
    have h4 := AddrMath.hexD_hexV ⟨b % 16, by omega⟩
    simp only at h3 h4
    exact Print.app (.cons (by omega) (.cons (by omega) (.cons (by omega) .nil))) ih
theorem join_print : ∀ {st : List (List Nat)}, (∀ g ∈ st, Print g) → Print (AddrMath.join st)
  | [], _ => by intro c hc; cases hc
  | g :: r, h => by
    rw [AddrMath.join_cons]
    exact .cons (by omega) ((h g (by simp)).app (join_print fun x hx => h x (by simp [hx])))
theorem form_print {f sch h po : List Nat} {st : List (List Nat)} {qu : List Nat} (F : AddrMath.Form f sch h po st qu) : Print f := by
  rw [F.is]
  refine .app ?_ (.app ?_ (.app ?_ (.app ?_ (.app ?_ ?_))))
  · rcases F.sch0 with rfl | rfl <;> (intro c hc; revert c; decide)
  · intro c hc; revert c; decide
  · intro c hc
    rcases AddrMath.host_chars F.host c hc with h | rfl
    · simp [AddrMath.labC] at h; omega
    · omega
  · rcases F.port with rfl | ⟨p, rfl, hp, _⟩
    · exact .nil
    · refine .cons (by omega) fun c hc => ?_
      have := AddrMath.port_chars hp c hc
      simp [AddrMath.digit] at this; omega
  · exact join_print fun g hg => norm_print (F.norm g hg)
  · rcases F.query with rfl | ⟨y, rfl, hy⟩
    · exact .nil
    · exact .cons (by omega) (norm_print hy)
theorem parse_print {s f : List Nat} (h : parse s = (f, 0)) : Print f := by
  obtain ⟨_, _, _, _, _, F⟩ := AddrMath.form_of_parse h
  exact form_print F
theorem parse_ne {s f : List Nat} (h : parse s = (f, 0)) : f ≠ [] := by
  obtain ⟨_, _, _, _, _, F⟩ := AddrMath.form_of_parse h
  intro e
  have := F.is
  rw [e] at this
  simp [AddrMath.colon] at this

theorem linkP_again {l f : List Nat} (h : linkP l = (f, 0)) : linkP f = (f, 0) ∧ cleanB f = f := by
  unfold linkP at h
  split at h
  · have := (Prod.mk.inj h).1; subst this; exact ⟨rfl, rfl⟩
  · have hn := parse_ne h
    exact ⟨by unfold linkP; rw [if_neg hn]; exact AddrMath.parse_parse h, cleanB_low (parse_print h)⟩
theorem linkP_len (l : List Nat) : (linkP l).1.length ≤ 200 := by
  unfold linkP; split
  · simp
  · exact AddrMath.parse_len l
theorem linkP_lt (l : List Nat) : ∀ c ∈ (linkP l).1, c < 256 := by
  unfold linkP; split
  · intro c hc; cases hc
  · exact AddrMath.parse_lt l
theorem linkP_code (l : List Nat) : (linkP l).2 = 0 ∨ (linkP l).2 = 23 ∨ (linkP l).2 = 25 := by
  unfold linkP; split
  · exact .inl rfl
  · exact AddrMath.parse_code l
theorem linkP_err {l : List Nat} (h : (linkP l).2 ≠ 0) : (linkP l).1 = [] := by
  unfold linkP at *
  split
  · rfl
  · rename_i hl
    rw [if_neg hl] at h
    exact AddrMath.parse_err (s := l) (e := (parse l).2) (by rfl) h
theorem guid_again {g l t : List Nat} (hl : cleanB l = l) (ht : cleanB t = t) : cleanB (guidOf (cleanB g) l t) = guidOf (cleanB g) l t := by
  unfold guidOf
  split
  · split
    · exact ht
    · exact hl
  · exact TxtMath.cleanB_twice g
theorem guidOf_self {g l t : List Nat} (h : guidOf g l t ≠ []) : guidOf (guidOf g l t) l t = guidOf g l t := by
  generalize hx : guidOf g l t = x at *
  unfold guidOf
  rw [if_neg h]

theorem clean_twice {e x : E} (h : clean e = (x, 0)) : clean x = (x, 0) := by
  obtain ⟨h1, h2, h3, h4, h5, h6, rfl⟩ := cleanG_ok h
  have hp : parse e.feed = ((parse e.feed).1, 0) := by rw [← h1]
  have hl : linkP e.link = ((linkP e.link).1, 0) := by rw [← h2]
  have hpp := AddrMath.parse_parse hp
  have hll := linkP_again hl
  have hg := guid_again (g := e.guid) hll.2 (TxtMath.cutB_clean e.title 120)
  unfold clean
  simp only []
  rw [hpp, hll.1, hg, TxtMath.cutB_twice, TxtMath.cutB_twice]
  rw [cleanG_is (by rw [guidOf_self h3]; exact h3) (by rw [guidOf_self h3]; exact h4) h5 h6, guidOf_self h3]
theorem right_iff (e : E) : right e = true ↔ clean e = (e, 0) := by
  unfold right
  rw [decide_eq_true_iff]
  generalize clean e = x
  obtain ⟨⟨a, b, c, d, f, g⟩, k⟩ := x
  cases e
  simp
  constructor
  · rintro ⟨rfl, rfl, rfl, rfl, rfl, rfl, rfl⟩; exact ⟨⟨rfl, rfl, rfl, rfl, rfl, rfl⟩, rfl⟩
  · rintro ⟨⟨rfl, rfl, rfl, rfl, rfl, rfl⟩, rfl⟩; exact ⟨rfl, rfl, rfl, rfl, rfl, rfl, rfl⟩
theorem right_no {e : E} (h : clean e ≠ (e, 0)) : right e = false := by
  cases hr : right e with
  | false => rfl
  | true => exact absurd ((right_iff e).1 hr) h
theorem clean_right {e x : E} (h : clean e = (x, 0)) : right x = true := (right_iff x).2 (clean_twice h)
theorem cutB_len (s : List Nat) (n : Nat) : (cutB s n).length ≤ 4 * n := by
  have h1 := TxtMath.encs_len_le (TxtMath.cutR (n : Int) (TxtMath.clean (runes s)))
  have h2 := TxtMath.cut_len (n : Int) (TxtMath.clean (runes s))
  show (TxtMath.encs (TxtMath.cutR (n : Int) (TxtMath.clean (runes s)))).length ≤ _
  simp at h2
  omega
theorem cutB_lt (s : List Nat) (n : Int) : ∀ c ∈ cutB s n, c < 256 := TxtMath.encs_lt _ (TxtMath.cut_ok n s)
theorem cleanB_lt' (s : List Nat) : ∀ c ∈ cleanB s, c < 256 := TxtMath.encs_lt _ (TxtMath.clean_ok s)
/-- What an entry in its form is made of: bytes, and not too many. -/
structure Fit (e : E) : Prop where
  f1 : ∀ c ∈ e.feed, c < 256
  f2 : ∀ c ∈ e.guid, c < 256
  f3 : ∀ c ∈ e.title, c < 256
  f4 : ∀ c ∈ e.link, c < 256
  f5 : ∀ c ∈ e.body, c < 256
  l1 : e.feed.length ≤ 200
  l2 : e.guid.length ≤ 800
  l3 : e.title.length ≤ 480
  l4 : e.link.length ≤ 200
  l5 : e.body.length ≤ 1600
  t0 : 0 ≤ e.time
  t1 : e.time ≤ 281474976710655
theorem guidOf_lt {g l t : List Nat} (hg : ∀ c ∈ g, c < 256) (hl : ∀ c ∈ l, c < 256) (ht : ∀ c ∈ t, c < 256) : ∀ c ∈ guidOf g l t, c < 256 := by
  unfold guidOf; split
  · split
    · exact ht
    · exact hl
  · exact hg
theorem guid_len {g l t : List Nat} (hl : l.length ≤ 200) (ht : t.length ≤ 480) (h : (runes (guidOf (cleanB g) l t)).length ≤ 200) : (guidOf (cleanB g) l t).length ≤ 800 := by
  unfold guidOf at *
  split
  · split <;> omega
  · rename_i hn
    rw [if_neg hn, TxtMath.runes_clean] at h
    have := TxtMath.encs_len_le (TxtMath.clean (runes g))
    show (TxtMath.encs (TxtMath.clean (runes g))).length ≤ 800
    omega
theorem clean_fit {e x : E} (h : clean e = (x, 0)) : Fit x := by
  obtain ⟨h1, h2, h3, h4, h5, h6, rfl⟩ := cleanG_ok h
  have ht := cutB_len e.title 120
  have hb := cutB_len e.body 400
  have hl := linkP_len e.link
  exact ⟨AddrMath.parse_lt _, guidOf_lt (cleanB_lt' _) (linkP_lt _) (cutB_lt _ _), cutB_lt _ _, linkP_lt _, cutB_lt _ _, AddrMath.parse_len _, guid_len hl ht h4, ht, hl, hb, h5, h6⟩
theorem right_fit {e : E} (h : right e = true) : Fit e := clean_fit ((right_iff e).1 h)
theorem zero_fit : Fit zero := ⟨by simp [zero], by simp [zero], by simp [zero], by simp [zero], by simp [zero], by simp [zero], by simp [zero], by simp [zero], by simp [zero], by simp [zero], by simp [zero], by simp [zero]⟩
theorem clean_any_fit (e : E) : Fit (clean e).1 := by
  by_cases h : (clean e).2 = 0
  · exact clean_fit (e := e) (by rw [← h])
  · have : (clean e).1 = zero := cleanG_err (k := (clean e).2) (by rfl) h
    rw [this]; exact zero_fit
theorem clean_code (e : E) : (clean e).2 = 0 ∨ (clean e).2 = 23 ∨ (clean e).2 = 24 ∨ (clean e).2 = 25 ∨ (clean e).2 = 26 := by
  have h1 := AddrMath.parse_code e.feed
  have h2 := linkP_code e.link
  unfold clean cleanG
  split
  · simp only []; omega
  split
  · simp only []; omega
  split
  · simp
  split
  · simp
  split
  · simp
  · simp
theorem right_ne {e : E} (h : right e = true) : e.feed ≠ [] := by
  have hc := (right_iff e).1 h
  obtain ⟨h1, h2, h3, h4, h5, h6, he⟩ := cleanG_ok hc
  have hp : parse e.feed = ((parse e.feed).1, 0) := by rw [← h1]
  have := parse_ne hp
  have e1 : e.feed = (parse e.feed).1 := congrArg E.feed he
  rw [e1]; exact this

-- bytes
def iN (l : List Nat) : List Int := l.map fun (x : Nat) => (x : Int)
def nI (zs : List Int) : List Nat := zs.map Int.toNat
theorem iN_len (l : List Nat) : (iN l).length = l.length := by simp [iN]
theorem nI_iN (l : List Nat) : nI (iN l) = l := by
  unfold nI iN
  rw [List.map_map]
  exact (List.map_congr_left (g := id) fun x _ => rfl).trans (by simp)
theorem iN_nI {zs : List Int} (h : ∀ c ∈ zs, 0 ≤ c ∧ c ≤ 255) : iN (nI zs) = zs := by
  unfold nI iN
  rw [List.map_map]
  refine (List.map_congr_left (g := id) fun x hx => ?_).trans (by simp)
  have := h x hx
  simp; omega
theorem iN_byte {l : List Nat} (h : ∀ c ∈ l, c < 256) : ∀ c ∈ iN l, 0 ≤ c ∧ c ≤ 255 := by
  intro c hc
  obtain ⟨x, hx, rfl⟩ := List.mem_map.1 hc
  have := h x hx
  omega
theorem nI_lt {zs : List Int} (h : ∀ c ∈ zs, 0 ≤ c ∧ c ≤ 255) : ∀ c ∈ nI zs, c < 256 := by
  intro c hc
  obtain ⟨x, hx, rfl⟩ := List.mem_map.1 hc
  have := h x hx
  omega
def textB (s : List Nat) : List Int := D (s.length : Int) ++ iN s
theorem textB_len (s : List Nat) : (textB s).length = (D (s.length : Int)).length + s.length := by simp [textB, iN_len]
def bytes0 (e : E) : List Int := textB e.feed ++ (textB e.guid ++ (textB e.title ++ (textB e.link ++ (textB e.body ++ D e.time))))
def bytes (e : E) : List Int := if right e = true then bytes0 e else []
theorem textB_byte {s : List Nat} (h : ∀ c ∈ s, c < 256) (hl : s.length ≤ 1000000) : ∀ c ∈ textB s, 0 ≤ c ∧ c ≤ 255 := by
  intro c hc
  rcases List.mem_append.1 hc with hc | hc
  · exact NumMath.D_byte (by omega) (by omega) c hc
  · exact iN_byte h c hc
theorem bytes0_byte {e : E} (h : Fit e) : ∀ c ∈ bytes0 e, 0 ≤ c ∧ c ≤ 255 := by
  intro c hc
  have := h.l1; have := h.l2; have := h.l3; have := h.l4; have := h.l5; have := h.t0; have := h.t1
  simp only [bytes0, List.mem_append] at hc
  rcases hc with hc | hc | hc | hc | hc | hc
  · exact textB_byte h.f1 (by omega) c hc
  · exact textB_byte h.f2 (by omega) c hc
  · exact textB_byte h.f3 (by omega) c hc
  · exact textB_byte h.f4 (by omega) c hc
  · exact textB_byte h.f5 (by omega) c hc
  · exact NumMath.D_byte (by omega) (by omega) c hc
theorem bytes_byte (e : E) : ∀ c ∈ bytes e, 0 ≤ c ∧ c ≤ 255 := by
  unfold bytes; split
  · rename_i h; exact bytes0_byte (right_fit h)
  · intro c hc; cases hc
theorem bytes0_len {e : E} (h : Fit e) : 6 ≤ (bytes0 e).length ∧ (bytes0 e).length ≤ 3340 := by
  have := h.l1; have := h.l2; have := h.l3; have := h.l4; have := h.l5
  have d1 := NumMath.D_len (e.feed.length : Int); have d2 := NumMath.D_len (e.guid.length : Int); have d3 := NumMath.D_len (e.title.length : Int)
  have d4 := NumMath.D_len (e.link.length : Int); have d5 := NumMath.D_len (e.body.length : Int); have d6 := NumMath.D_len e.time
  simp only [bytes0, List.length_append, textB_len]
  omega
theorem bytes_len (e : E) : (bytes e).length ≤ 3340 := by
  unfold bytes; split
  · rename_i h; exact (bytes0_len (right_fit h)).2
  · simp
theorem bytes_nil (e : E) : (bytes e).length = 0 ↔ right e = false := by
  unfold bytes
  cases h : right e
  · simp
  · have := bytes0_len (right_fit h)
    simp; intro h2; rw [h2] at this; simp at this

-- what bytes are read as
def takeT (zs : List Int) : List Nat × List Int × Nat :=
  if (tak zs).2.2 ≠ 0 then ([], [], (tak zs).2.2.toNat) else
  if ((zs.drop (tak zs).2.1.toNat).length : Int) < (tak zs).1 then ([], [], 20) else
  (nI ((zs.drop (tak zs).2.1.toNat).take (tak zs).1.toNat), (zs.drop (tak zs).2.1.toNat).drop (tak zs).1.toNat, 0)
def texts : Nat → List Int → List (List Nat) × List Int × Nat
  | 0, zs => ([], zs, 0)
  | k + 1, zs => if (takeT zs).2.2 ≠ 0 then ([], [], (takeT zs).2.2) else
    if (texts k (takeT zs).2.1).2.2 ≠ 0 then ([], [], (texts k (takeT zs).2.1).2.2) else
    ((takeT zs).1 :: (texts k (takeT zs).2.1).1, (texts k (takeT zs).2.1).2.1, 0)
def ofTexts (l : List (List Nat)) (n : Int) : E := ⟨l[0]?.getD [], l[1]?.getD [], l[2]?.getD [], l[3]?.getD [], l[4]?.getD [], n⟩
def readE (l : List (List Nat)) (r : List Int) : E × Nat :=
  if (tak r).2.2 ≠ 0 then (zero, (tak r).2.2.toNat) else
  if 281474976710655 < (tak r).1 ∨ (tak r).2.1 < (r.length : Int) then (zero, 21) else
  if right (ofTexts l (tak r).1) = true then (ofTexts l (tak r).1, 0) else (zero, 21)
def read (zs : List Int) : E × Nat :=
  if (texts 5 zs).2.2 ≠ 0 then (zero, (texts 5 zs).2.2) else readE (texts 5 zs).1 (texts 5 zs).2.1

theorem takeT_back (s : List Nat) (hs : s.length ≤ 1000000) (t : List Int) : takeT (textB s ++ t) = (s, t, 0) := by
  have hb := NumMath.tak_back (v := (s.length : Int)) (by omega) (by omega) (iN s ++ t)
  rw [← List.append_assoc] at hb
  have e : textB s ++ t = D (s.length : Int) ++ iN s ++ t := rfl
  have hd : (textB s ++ t).drop (D (s.length : Int)).length = iN s ++ t := by rw [e, List.append_assoc]; simp
  unfold takeT
  rw [e, hb, ← e]
  simp only [Int.toNat_natCast, hd]
  rw [if_neg (by simp), if_neg (by simp [iN_len]; omega)]
  have : (iN s ++ t).take s.length = iN s := by rw [← iN_len s]; simp
  have h2 : (iN s ++ t).drop s.length = t := by rw [← iN_len s]; simp
  rw [this, h2, nI_iN]
theorem takeT_cut (s : List Nat) (hs : s.length ≤ 1000000) (i : Nat) (hi : i < (textB s).length) : takeT ((textB s).take i) = ([], [], 20) := by
  by_cases h : i < (D (s.length : Int)).length
  · have := NumMath.tak_cut (v := (s.length : Int)) (by omega) (by omega) i h
    have e : (textB s).take i = (D (s.length : Int)).take i := by
      unfold textB; rw [List.take_append_of_le_length (by omega)]
    unfold takeT
    rw [e, this]
    simp
  · rw [textB_len] at hi
    have e : (textB s).take i = D (s.length : Int) ++ (iN s).take (i - (D (s.length : Int)).length) := by
      unfold textB; rw [List.take_append, List.take_of_length_le (by omega)]
    have hb := NumMath.tak_back (v := (s.length : Int)) (by omega) (by omega) ((iN s).take (i - (D (s.length : Int)).length))
    unfold takeT
    rw [e, hb]
    simp only [Int.toNat_natCast, List.drop_left]
    rw [if_neg (by simp), if_pos (by simp [iN_len]; omega)]
theorem takeT_code (zs : List Int) (hb : ∀ c ∈ zs, 0 ≤ c ∧ c ≤ 255) : (takeT zs).2.2 = 0 ∨ takeT zs = ([], [], 20) ∨ takeT zs = ([], [], 21) := by
  unfold takeT
  rcases NumMath.tak_cases zs hb with h | h | ⟨k, v, _, _, _, _, h, _⟩
  · rw [h]; simp
  · rw [h]; simp
  · rw [h]; simp only []
    rw [if_neg (by simp)]
    split
    · exact .inr (.inl rfl)
    · exact .inl rfl
theorem takeT_one (zs : List Int) (hb : ∀ c ∈ zs, 0 ≤ c ∧ c ≤ 255) (h : (takeT zs).2.2 = 0) : zs = textB (takeT zs).1 ++ (takeT zs).2.1 ∧ (takeT zs).1.length ≤ zs.length ∧ (∀ c ∈ (takeT zs).1, c < 256) ∧ (∀ c ∈ (takeT zs).2.1, 0 ≤ c ∧ c ≤ 255) ∧ (takeT zs).2.1.length ≤ zs.length := by
  rcases NumMath.tak_cases zs hb with h1 | h1 | ⟨k, v, hk, hkl, hv0, hv1, h1, hD⟩
  · unfold takeT at h; rw [h1] at h; simp at h
  · unfold takeT at h; rw [h1] at h; simp at h
  · by_cases hl : ((zs.drop (k + 1)).length : Int) < v
    · unfold takeT at h; rw [h1] at h; simp only [] at h
      have e : ((k : Int) + 1).toNat = k + 1 := by omega
      rw [if_neg (by simp), e, if_pos hl] at h; simp at h
    · have e : ((k : Int) + 1).toNat = k + 1 := by omega
      have hT : takeT zs = (nI ((zs.drop (k + 1)).take v.toNat), (zs.drop (k + 1)).drop v.toNat, 0) := by
        unfold takeT; rw [h1]; simp only []
        rw [if_neg (by simp), e, if_neg hl]
      rw [hT]
      simp only []
      have hsub : ∀ c ∈ (zs.drop (k + 1)).take v.toNat, 0 ≤ c ∧ c ≤ 255 := fun c hc => hb c (List.mem_of_mem_drop (List.mem_of_mem_take hc))
      have hlen : (nI ((zs.drop (k + 1)).take v.toNat)).length = v.toNat := by
        simp only [nI, List.length_map, List.length_take]; omega
      refine ⟨?_, ?_, nI_lt hsub, fun c hc => hb c (List.mem_of_mem_drop (List.mem_of_mem_drop hc)), by simp⟩
      · unfold textB
        rw [hlen, iN_nI hsub, show ((v.toNat : Nat) : Int) = v by omega, hD, List.append_assoc, List.take_append_drop, List.take_append_drop]
      · rw [hlen]; simp at hl; omega

theorem texts_succ {k : Nat} {zs : List Int} {s : List Nat} {r : List Int} (h : takeT zs = (s, r, 0)) :
    texts (k + 1) zs = if (texts k r).2.2 ≠ 0 then ([], [], (texts k r).2.2) else (s :: (texts k r).1, (texts k r).2.1, 0) := by
  rw [texts]; rw [h]; simp
theorem texts_stop {k : Nat} {zs : List Int} {a : List Nat} {b : List Int} {n : Nat} (h : takeT zs = (a, b, n)) (hn : n ≠ 0) : texts (k + 1) zs = ([], [], n) := by
  rw [texts]; rw [h]; simp [hn]
theorem texts_app : ∀ (l : List (List Nat)) (t : List Int), (∀ s ∈ l, s.length ≤ 1000000) → texts l.length (l.flatMap textB ++ t) = (l, t, 0)
  | [], t, _ => rfl
  | s :: l, t, h => by
    have ih := texts_app l t fun x hx => h x (by simp [hx])
    rw [List.flatMap_cons, List.append_assoc, List.length_cons, texts_succ (takeT_back s (h s (by simp)) _), ih]
    simp
theorem texts_cut : ∀ (l : List (List Nat)) (i : Nat), (∀ s ∈ l, s.length ≤ 1000000) → i < (l.flatMap textB).length → (texts l.length ((l.flatMap textB).take i)) = ([], [], 20)
  | [], i, _, hi => by simp at hi
  | s :: l, i, h, hi => by
    have hs := h s (by simp)
    rw [List.flatMap_cons, List.length_append] at hi
    rw [List.flatMap_cons, List.length_cons]
    by_cases hc : i < (textB s).length
    · rw [List.take_append_of_le_length (by omega)]
      exact texts_stop (takeT_cut s hs i hc) (by decide)
    · rw [List.take_append, List.take_of_length_le (by omega), texts_succ (takeT_back s hs _), texts_cut l (i - (textB s).length) (fun x hx => h x (by simp [hx])) (by omega)]
      simp
theorem texts_one : ∀ (k : Nat) (zs : List Int), (∀ c ∈ zs, 0 ≤ c ∧ c ≤ 255) → (texts k zs).2.2 = 0 → zs = (texts k zs).1.flatMap textB ++ (texts k zs).2.1 ∧ (texts k zs).1.length = k ∧ (∀ s ∈ (texts k zs).1, ∀ c ∈ s, c < 256) ∧ (∀ c ∈ (texts k zs).2.1, 0 ≤ c ∧ c ≤ 255) ∧ (∀ s ∈ (texts k zs).1, s.length ≤ zs.length)
  | 0, zs, hb, h => by simp [texts]; exact hb
  | k + 1, zs, hb, h => by
    rcases takeT_code zs hb with h0 | h0 | h0
    · obtain ⟨h1, h2, h3, h4, h6⟩ := takeT_one zs hb h0
      have e : takeT zs = ((takeT zs).1, (takeT zs).2.1, 0) := by rw [← h0]
      generalize (takeT zs).1 = s at *
      generalize (takeT zs).2.1 = r at *
      rw [texts_succ e] at h ⊢
      by_cases h5 : (texts k r).2.2 = 0
      · have ih := texts_one k r h4 h5
        rw [if_neg (by simp [h5])]
        refine ⟨?_, by simp [ih.2.1], ?_, ih.2.2.2.1, ?_⟩
        · show zs = (s :: (texts k r).1).flatMap textB ++ (texts k r).2.1
          rw [List.flatMap_cons, List.append_assoc, ← ih.1]; exact h1
        · intro x hx
          rcases List.mem_cons.1 hx with rfl | hx
          · exact h3
          · exact ih.2.2.1 x hx
        · intro x hx
          rcases List.mem_cons.1 hx with rfl | hx
          · exact h2
          · have := ih.2.2.2.2 x hx; omega
      · rw [if_pos h5] at h; exact absurd h h5
    · rw [texts_stop h0 (by decide)] at h; cases h
    · rw [texts_stop h0 (by decide)] at h; cases h
theorem ofTexts_list {l : List (List Nat)} (h : l.length = 5) (v : Int) : [(ofTexts l v).feed, (ofTexts l v).guid, (ofTexts l v).title, (ofTexts l v).link, (ofTexts l v).body] = l := by
  match l, h with
  | [a, b, c, d, f], _ => rfl
theorem bytes0_flat (e : E) : bytes0 e = [e.feed, e.guid, e.title, e.link, e.body].flatMap textB ++ D e.time := by
  simp [bytes0, List.flatMap_cons]
theorem Fit.small {e : E} (h : Fit e) : ∀ s ∈ [e.feed, e.guid, e.title, e.link, e.body], s.length ≤ 1000000 := by
  have := h.l1; have := h.l2; have := h.l3; have := h.l4; have := h.l5
  intro s hs
  simp at hs
  rcases hs with rfl | rfl | rfl | rfl | rfl <;> omega
theorem read_bytes {e : E} (h : right e = true) : read (bytes0 e) = (e, 0) := by
  have hf := right_fit h
  have ht := texts_app [e.feed, e.guid, e.title, e.link, e.body] (D e.time) hf.small
  have hb := NumMath.tak_back (v := e.time) hf.t0 (by have := hf.t1; omega) []
  rw [List.append_nil] at hb
  unfold read
  rw [bytes0_flat, show (5 : Nat) = [e.feed, e.guid, e.title, e.link, e.body].length from rfl, ht]
  simp only []
  rw [if_neg (by simp)]
  unfold readE
  rw [hb]
  simp only []
  have ho : ofTexts [e.feed, e.guid, e.title, e.link, e.body] e.time = e := rfl
  rw [if_neg (by simp), if_neg (by have := hf.t1; omega), ho, if_pos h]
theorem read_more {e : E} (h : right e = true) (t : List Int) (ht : t ≠ []) : read (bytes0 e ++ t) = (zero, 21) := by
  have hf := right_fit h
  have hx := texts_app [e.feed, e.guid, e.title, e.link, e.body] (D e.time ++ t) hf.small
  have hb := NumMath.tak_back (v := e.time) hf.t0 (by have := hf.t1; omega) t
  unfold read
  rw [bytes0_flat, List.append_assoc, show (5 : Nat) = [e.feed, e.guid, e.title, e.link, e.body].length from rfl, hx]
  simp only []
  rw [if_neg (by simp)]
  unfold readE
  rw [hb]
  simp only []
  have : 0 < t.length := List.length_pos_iff.2 ht
  rw [if_neg (by simp), if_pos (by right; simp; omega)]
theorem read_cut {e : E} (h : right e = true) (i : Nat) (hi : i < (bytes0 e).length) : read ((bytes0 e).take i) = (zero, 20) := by
  have hf := right_fit h
  unfold read
  rw [bytes0_flat] at hi ⊢
  generalize hl : [e.feed, e.guid, e.title, e.link, e.body] = l at *
  have hl5 : l.length = 5 := by rw [← hl]; rfl
  have hs : ∀ s ∈ l, s.length ≤ 1000000 := by rw [← hl]; exact hf.small
  rw [show (5 : Nat) = l.length from hl5.symm]
  rw [List.length_append] at hi
  by_cases hc : i < (l.flatMap textB).length
  · rw [List.take_append_of_le_length (by omega), texts_cut l i hs hc]; simp
  · have hx := texts_app l ((D e.time).take (i - (l.flatMap textB).length)) hs
    have hk := NumMath.tak_cut (v := e.time) hf.t0 (by have := hf.t1; omega) (i - (l.flatMap textB).length) (by omega)
    rw [List.take_append, List.take_of_length_le (by omega), hx]
    simp only []
    rw [if_neg (by simp)]
    unfold readE
    rw [hk]
    simp
theorem read_code (zs : List Int) (hb : ∀ c ∈ zs, 0 ≤ c ∧ c ≤ 255) : (read zs).2 = 0 ∨ read zs = (zero, 20) ∨ read zs = (zero, 21) := by
  have ht : ∀ (k : Nat) (zs : List Int), (∀ c ∈ zs, 0 ≤ c ∧ c ≤ 255) → (texts k zs).2.2 = 0 ∨ (texts k zs).2.2 = 20 ∨ (texts k zs).2.2 = 21 := by
    intro k
    induction k with
    | zero => intro zs _; exact .inl rfl
    | succ k ih =>
      intro zs hb
      rcases takeT_code zs hb with h0 | h0 | h0
      · obtain ⟨_, _, _, h4, _⟩ := takeT_one zs hb h0
        have e : takeT zs = ((takeT zs).1, (takeT zs).2.1, 0) := by rw [← h0]
        rw [texts_succ e]
        have := ih _ h4
        split
        · exact this
        · exact .inl rfl
      · rw [texts_stop h0 (by decide)]; exact .inr (.inl rfl)
      · rw [texts_stop h0 (by decide)]; exact .inr (.inr rfl)
  unfold read
  have h5 := ht 5 zs hb
  split
  · rcases h5 with h | h | h
    · rename_i hn; exact absurd h hn
    · rw [h]; exact .inr (.inl rfl)
    · rw [h]; exact .inr (.inr rfl)
  · rename_i hn
    have hr := (texts_one 5 zs hb (by simpa using hn)).2.2.2.1
    generalize (texts 5 zs).2.1 = r at *
    unfold readE
    rcases NumMath.tak_cases r hr with h | h | ⟨k, v, _, _, _, _, h, _⟩
    · rw [h]; exact .inr (.inl rfl)
    · rw [h]; exact .inr (.inr rfl)
    · rw [h]; simp only []
      rw [if_neg (by simp)]
      split
      · exact .inr (.inr rfl)
      · split
        · exact .inl rfl
        · exact .inr (.inr rfl)
theorem read_one (zs : List Int) (hb : ∀ c ∈ zs, 0 ≤ c ∧ c ≤ 255) (h : (read zs).2 = 0) : right (read zs).1 = true ∧ bytes (read zs).1 = zs := by
  unfold read at h ⊢
  by_cases h5 : (texts 5 zs).2.2 = 0
  · rw [if_neg (by simp [h5])] at h ⊢
    obtain ⟨h1, h2, h3, h4, _⟩ := texts_one 5 zs hb h5
    generalize (texts 5 zs).1 = l at *
    generalize (texts 5 zs).2.1 = r at *
    unfold readE at h ⊢
    rcases NumMath.tak_cases r h4 with hk | hk | ⟨k, v, hk, hkl, hv0, hv1, hT, hD⟩
    · rw [hk] at h; simp at h
    · rw [hk] at h; simp at h
    · rw [hT] at h ⊢
      simp only [] at h ⊢
      rw [if_neg (by simp)] at h ⊢
      by_cases hc : 281474976710655 < v ∨ (k : Int) + 1 < (r.length : Int)
      · rw [if_pos hc] at h; simp at h
      · rw [if_neg hc] at h ⊢
        by_cases hR : right (ofTexts l v) = true
        · rw [if_pos hR] at h ⊢
          refine ⟨hR, ?_⟩
          simp only []
          unfold bytes
          rw [if_pos hR, bytes0_flat]
          have hl : [(ofTexts l v).feed, (ofTexts l v).guid, (ofTexts l v).title, (ofTexts l v).link, (ofTexts l v).body] = l := by
            exact ofTexts_list h2 v
          rw [hl]
          show l.flatMap textB ++ D v = zs
          rw [hD, List.take_of_length_le (by omega)]
          exact h1.symm
        · rw [if_neg hR] at h; simp at h
  · rw [if_pos h5] at h; exact absurd h h5
theorem bytes_inj {a b : E} (ha : right a = true) (h : bytes a = bytes b) : a = b := by
  cases hb : right b
  · have h1 := (bytes_nil b).2 hb
    have h2 := (bytes_nil a).1 (by rw [h]; exact h1)
    rw [ha] at h2; cases h2
  · unfold bytes at h
    rw [if_pos ha, if_pos hb] at h
    have h1 := read_bytes ha
    have h2 := read_bytes hb
    rw [h] at h1
    exact (Prod.mk.inj (h1.symm.trans h2)).1
end EntMath

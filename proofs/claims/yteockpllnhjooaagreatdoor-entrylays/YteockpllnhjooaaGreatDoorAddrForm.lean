/-
  The forms of addresses: what a form is made of; a form's form is itself; what great letters and segments of dots that lead nowhere change: nothing; hosts.
-/
import Derived.Test.YteockpllnhjooaaGreatDoorAddrLaws
namespace AddrMath
set_option linter.unusedVariables false
set_option linter.unusedSimpArgs false
open TxtMath (dec enc byteAt contAt valid)

/- hosts -/
theorem splitD_all {c : Nat} {P : Nat → Prop} : ∀ {l : List Nat}, (∀ g ∈ splitD c l, ∀ x ∈ g, P x) → ∀ x ∈ l, P x ∨ x = c
  | [], _, x, hx => by cases hx
  | y :: t, h, x, hx => by
    rw [splitD_cons] at h
    split at h
    · rename_i hy
      rcases List.mem_cons.1 hx with rfl | hx
      · exact .inr hy
      · exact splitD_all (fun g hg => h g (by simp [hg])) x hx
    · split at h
      · rename_i e; exact absurd e (splitD_ne c t)
      · rename_i g r e
        rcases List.mem_cons.1 hx with rfl | hx
        · exact .inl (h (x :: g) (by simp) x (by simp))
        · refine splitD_all (fun g' hg' => ?_) x hx
          rw [e] at hg'
          rcases List.mem_cons.1 hg' with rfl | hg'
          · exact fun z hz => h (y :: g') (by simp) z (by simp [hz])
          · exact h g' (by simp [hg'])
theorem host_chars {l : List Nat} (h : isHost l = true) : ∀ x ∈ l, labC x = true ∨ x = 46 := by
  simp [isHost] at h
  exact splitD_all (fun g hg x hx => by
    have := h.2 g hg
    simp [isLab] at this
    exact this.1.1.1.1 x hx)
theorem host_ne {l : List Nat} (h : isHost l = true) : l ≠ [] := by
  rintro rfl
  exact absurd h (by decide)
theorem host_no {l : List Nat} (h : isHost l = true) {c : Nat} (h1 : labC c = false) (h2 : c ≠ 46) : No (is c) l := by
  intro x hx
  simp [is]
  rintro rfl
  rcases host_chars h x hx with h3 | h3
  · rw [h1] at h3; cases h3
  · exact h2 h3
theorem host_lower {l : List Nat} (h : isHost l = true) : lower l = l := by
  apply lower_eq
  intro x hx
  rcases host_chars h x hx with h3 | h3
  · simp [labC] at h3; omega
  · omega
theorem port_chars {l : List Nat} (h : isPort l = true) : ∀ x ∈ l, digit x = true := by
  simp [isPort] at h
  exact h.1.2
theorem port_no {l : List Nat} (h : isPort l = true) {c : Nat} (h1 : digit c = false) : No (is c) l := by
  intro x hx
  simp [is]
  rintro rfl
  have := port_chars h x hx
  rw [h1] at this; cases this
theorem port_lower {l : List Nat} (h : isPort l = true) : lower l = l := by
  apply lower_eq
  intro x hx
  have := port_chars h x hx
  simp [digit] at this; omega

/- what a path or a query is in its form -/
def NormN (q : Bool) : Nat → List Nat → Prop
  | 0, l => l = []
  | n + 1, l => (∃ b t, l = b :: t ∧ (plain b || extra q b) = true ∧ NormN q n t) ∨ ∃ b t, l = escape b ++ t ∧ b < 256 ∧ plain b = false ∧ NormN q n t
def Norm (q : Bool) (l : List Nat) : Prop := ∃ n, NormN q n l
theorem Norm.nil {q : Bool} : Norm q [] := ⟨0, rfl⟩
theorem Norm.low {q : Bool} (b : Nat) (t : List Nat) (h : (plain b || extra q b) = true) (ht : Norm q t) : Norm q (b :: t) := by
  obtain ⟨n, hn⟩ := ht
  exact ⟨n + 1, .inl ⟨b, t, rfl, h, hn⟩⟩
theorem Norm.esc {q : Bool} (b : Nat) (t : List Nat) (h : b < 256) (h2 : plain b = false) (ht : Norm q t) : Norm q (escape b ++ t) := by
  obtain ⟨n, hn⟩ := ht
  exact ⟨n + 1, .inr ⟨b, t, rfl, h, h2, hn⟩⟩
theorem Norm.induct {q : Bool} {m : List Nat → Prop} (h0 : m []) (h1 : ∀ b t, (plain b || extra q b) = true → Norm q t → m t → m (b :: t))
    (h2 : ∀ b t, b < 256 → plain b = false → Norm q t → m t → m (escape b ++ t)) {l : List Nat} (h : Norm q l) : m l := by
  obtain ⟨n, hn⟩ := h
  induction n generalizing l with
  | zero => unfold NormN at hn; rw [hn]; exact h0
  | succ n ih =>
    unfold NormN at hn
    rcases hn with ⟨b, t, rfl, hb, ht⟩ | ⟨b, t, rfl, hb, hb2, ht⟩
    · exact h1 b t hb ⟨n, ht⟩ (ih ht)
    · exact h2 b t hb hb2 ⟨n, ht⟩ (ih ht)
theorem signs_lt : ∀ c ∈ signs, c < 128 ∧ c ≠ 37 ∧ c ≠ 35 ∧ c ≠ 63 := by decide
theorem ok_lt {q : Bool} {b : Nat} (h : (plain b || extra q b) = true) : b < 128 ∧ b ≠ 37 ∧ b ≠ 35 ∧ (q = false → b ≠ 63) := by
  rw [Bool.or_eq_true] at h
  rcases h with h | h
  · simp [plain] at h; omega
  · unfold extra at h
    rw [Bool.or_eq_true] at h
    rcases h with h | h
    · have := signs_lt b (by simpa using h)
      omega
    · simp at h
      refine ⟨by omega, by omega, by omega, fun e => ?_⟩
      rw [e] at h; cases h.1
theorem hexD_hexV : ∀ n : Fin 16, hexV (hexD n.val) = some n.val ∧ 48 ≤ hexD n.val ∧ hexD n.val ≤ 70 ∧ hexD n.val ≠ 63 := by decide
theorem hexV_lt {c v : Nat} (h : hexV c = some v) : v < 16 := by
  unfold hexV at h
  repeat' split at h
  all_goals first | (simp at h; omega) | cases h
theorem hexAt_lt {t : List Nat} {v : Nat} (h : hexAt t = some v) : v < 256 := by
  unfold hexAt at h
  split at h
  · split at h
    · rename_i h1 h2
      have := hexV_lt h1; have := hexV_lt h2
      simp at h; omega
    · cases h
  · cases h
theorem hexAt_escape (b : Nat) (hb : b < 256) (t : List Nat) : hexAt (hexD (b / 16) :: hexD (b % 16) :: t) = some b := by
  have h1 := (hexD_hexV ⟨b / 16, by omega⟩).1
  have h2 := (hexD_hexV ⟨b % 16, by omega⟩).1
  simp only at h1 h2
  show (match hexV (hexD (b / 16)), hexV (hexD (b % 16)) with | some h, some l => some (16 * h + l) | _, _ => none) = some b
  rw [h1, h2]
  simp; omega
theorem Norm.app {q : Bool} {a b : List Nat} (ha : Norm q a) (hb : Norm q b) : Norm q (a ++ b) := by
  refine Norm.induct (m := fun l => Norm q (l ++ b)) ?nil ?low ?esc ha
  case nil => exact hb
  case low => intro x t h _ ih; exact .low x _ h ih
  case esc => intro x t h h2 _ ih; rw [List.append_assoc]; exact .esc x _ h h2 ih
theorem Norm.escs {q : Bool} {t : List Nat} (ht : Norm q t) : ∀ {l : List Nat}, (∀ c ∈ l, 128 ≤ c ∧ c < 256) → Norm q (l.flatMap escape ++ t)
  | [], _ => ht
  | x :: l, h => by
    have hx := h x (by simp)
    rw [List.flatMap_cons, List.append_assoc]
    exact .esc x _ hx.2 (by simp [plain]; omega) (Norm.escs ht (fun c hc => h c (by simp [hc])))
theorem norm_way {q : Bool} : ∀ (n : Nat) (l f : List Nat), l.length ≤ n → way q l = some f → Norm q f
  | 0, l, f, h, hw => by have : l = [] := List.eq_nil_of_length_eq_zero (by omega); subst this; cases hw; exact .nil
  | n + 1, [], f, h, hw => by cases hw; exact .nil
  | n + 1, b :: t, f, h, hw => by
    simp only [List.length_cons] at h
    by_cases h1 : b = 37
    · subst h1
      rw [way_pct] at hw
      split at hw
      · rename_i v hv
        obtain ⟨y, hy, rfl⟩ := Option.map_eq_some_iff.1 hw
        have ih := norm_way n (t.drop 2) y (by simp; omega) hy
        unfold meant
        split
        · rename_i hp; exact .low v y (by simp [hp]) ih
        · rename_i hp; exact .esc v y (hexAt_lt hv) (by simpa using hp) ih
      · cases hw
    · by_cases h2 : b < 128
      · rw [way_low t h1 h2] at hw
        split at hw
        · rename_i hok
          obtain ⟨y, hy, rfl⟩ := Option.map_eq_some_iff.1 hw
          exact .low b y hok (norm_way n t y (by omega) hy)
        · cases hw
      · rw [way_high t (by omega)] at hw
        split at hw
        · cases hw
        · rename_i hd
          obtain ⟨y, hy, rfl⟩ := Option.map_eq_some_iff.1 hw
          have hm := TxtMath.dec_multi (b :: t) hd
          have hv := TxtMath.valid_le (TxtMath.dec_valid (b :: t))
          have hp := (TxtMath.dec_pos (b :: t)).1
          have ih := norm_way n _ y (by simp; omega) hy
          rw [hm.1]
          exact Norm.escs ih (TxtMath.enc_ge _ hm.2 hv)
theorem way_norm {q : Bool} {f : List Nat} (h : Norm q f) : way q f = some f := by
  refine Norm.induct (m := fun l => way q l = some l) ?nil ?low ?esc h
  case nil => rfl
  case low =>
    intro b t h _ ih
    have := ok_lt h
    rw [way_low t this.2.1 this.1, if_pos h, ih]; rfl
  case esc =>
    intro b t h h2 _ ih
    show way q (37 :: hexD (b / 16) :: hexD (b % 16) :: t) = _
    rw [way_pct, hexAt_escape b h]
    show (way q t).map _ = _
    rw [ih]
    simp [meant, h2]
theorem norm_chars {q : Bool} {f : List Nat} (h : Norm q f) : ∀ x ∈ f, x < 128 ∧ x ≠ 35 ∧ (q = false → x ≠ 63) := by
  refine Norm.induct (m := fun l => ∀ x ∈ l, x < 128 ∧ x ≠ 35 ∧ (q = false → x ≠ 63)) ?nil ?low ?esc h
  case nil => intro x hx; cases hx
  case low =>
    intro b t h _ ih
    intro x hx
    have := ok_lt h
    rcases List.mem_cons.1 hx with rfl | hx
    · exact ⟨this.1, this.2.2.1, this.2.2.2⟩
    · exact ih x hx
  case esc =>
    intro b t h h2 _ ih
    intro x hx
    rcases List.mem_append.1 hx with hx | hx
    · have h3 := hexD_hexV ⟨b / 16, by omega⟩
      have h4 := hexD_hexV ⟨b % 16, by omega⟩
      simp only at h3 h4
      simp [escape] at hx
      rcases hx with rfl | rfl | rfl
      · exact ⟨by omega, by omega, fun _ => by omega⟩
      · exact ⟨by omega, by omega, fun _ => h3.2.2.2⟩
      · exact ⟨by omega, by omega, fun _ => h4.2.2.2⟩
    · exact ih x hx
theorem norm_true {f : List Nat} (h : Norm false f) : Norm true f := by
  refine Norm.induct (m := fun l => Norm true l) ?nil ?low ?esc h
  case nil => exact .nil
  case low => intro b t h _ ih; exact .low b t (by simp [extra] at h ⊢; rcases h with h | h; exact .inl h; exact .inr (.inl h)) ih
  case esc => intro b t h h2 _ ih; exact .esc b t h h2 ih
theorem norm_split {q : Bool} {f : List Nat} (h : Norm q f) : ∀ g ∈ splitD 47 f, Norm q g := by
  refine Norm.induct (m := fun l => ∀ g ∈ splitD 47 l, Norm q g) ?nil ?low ?esc h
  case nil => intro g hg; simp [splitD] at hg; subst hg; exact .nil
  case low =>
    intro b t h _ ih
    intro g hg
    rw [splitD_cons] at hg
    split at hg
    · rcases List.mem_cons.1 hg with rfl | hg
      · exact .nil
      · exact ih g hg
    · split at hg
      · rename_i e; exact absurd e (splitD_ne 47 t)
      · rename_i h' r e
        rcases List.mem_cons.1 hg with rfl | hg
        · exact .low b _ h (ih h' (by rw [e]; simp))
        · exact ih g (by rw [e]; simp [hg])
  case esc =>
    intro b t h h2 _ ih
    intro g hg
    have h3 := hexD_hexV ⟨b / 16, by omega⟩
    have h4 := hexD_hexV ⟨b % 16, by omega⟩
    simp only at h3 h4
    have e : splitD 47 (escape b ++ t) = match splitD 47 t with | [] => [escape b] | h :: r => (escape b ++ h) :: r := by
      show splitD 47 (37 :: hexD (b / 16) :: hexD (b % 16) :: t) = _
      rw [splitD_cons, if_neg (by decide), splitD_cons, if_neg (by omega), splitD_cons, if_neg (by omega)]
      cases hs : splitD 47 t with
      | nil => rfl
      | cons h r => rfl
    rw [e] at hg
    split at hg
    · rename_i e; exact absurd e (splitD_ne 47 t)
    · rename_i h' r e
      rcases List.mem_cons.1 hg with rfl | hg
      · exact .esc b _ h h2 (ih h' (by rw [e]; simp))
      · exact ih g (by rw [e]; simp [hg])
theorem norm_join {q : Bool} : ∀ {l : List (List Nat)}, (∀ g ∈ l, Norm q g) → Norm q (join l)
  | [], _ => .nil
  | g :: r, h => by
    rw [join_cons]
    exact .low 47 _ (by simp [extra, signs]) ((h g (by simp)).app (norm_join (fun x hx => h x (by simp [hx]))))

/- segments -/
def Dotted (g : List Nat) : Prop := g = [46] ∨ g = [46, 46]
theorem dotsGo_mem : ∀ (l st : List (List Nat)), ∀ g ∈ dotsGo st l, g ∈ st ∨ (g ∈ l ∧ ¬ Dotted g) ∨ g = []
  | [], st, g, hg => .inl hg
  | [a], st, g, hg => by
    unfold dotsGo at hg
    split at hg
    · rcases List.mem_append.1 hg with h | h
      · exact .inl h
      · simp at h; exact .inr (.inr h)
    · split at hg
      · rcases List.mem_append.1 hg with h | h
        · exact .inl (List.dropLast_subset _ h)
        · simp at h; exact .inr (.inr h)
      · rename_i h1 h2
        rcases List.mem_append.1 hg with h | h
        · exact .inl h
        · simp at h; subst h; exact .inr (.inl ⟨by simp, by unfold Dotted; simp [h1, h2]⟩)
  | a :: b :: r, st, g, hg => by
    unfold dotsGo at hg
    split at hg
    · rcases dotsGo_mem (b :: r) _ g hg with h | h | h
      · exact .inl h
      · exact .inr (.inl ⟨List.mem_cons_of_mem _ h.1, h.2⟩)
      · exact .inr (.inr h)
    · split at hg
      · rcases dotsGo_mem (b :: r) _ g hg with h | h | h
        · exact .inl (List.dropLast_subset _ h)
        · exact .inr (.inl ⟨List.mem_cons_of_mem _ h.1, h.2⟩)
        · exact .inr (.inr h)
      · rename_i h1 h2
        rcases dotsGo_mem (b :: r) _ g hg with h | h | h
        · rcases List.mem_append.1 h with h | h
          · exact .inl h
          · simp at h; subst h; exact .inr (.inl ⟨by simp, by unfold Dotted; simp [h1, h2]⟩)
        · exact .inr (.inl ⟨List.mem_cons_of_mem _ h.1, h.2⟩)
        · exact .inr (.inr h)
theorem dotsGo_ne : ∀ (l st : List (List Nat)), l ≠ [] → dotsGo st l ≠ []
  | [], st, h => absurd rfl h
  | [a], st, _ => by unfold dotsGo; repeat' split
                     all_goals simp
  | a :: b :: r, st, _ => by
    unfold dotsGo
    split
    · exact dotsGo_ne (b :: r) _ (by simp)
    · split
      · exact dotsGo_ne (b :: r) _ (by simp)
      · exact dotsGo_ne (b :: r) _ (by simp)
theorem dotsGo_plain : ∀ (l st : List (List Nat)), (∀ g ∈ l, ¬ Dotted g) → dotsGo st l = st ++ l
  | [], st, _ => by simp [dotsGo]
  | [a], st, h => by
    have ha := h a (by simp)
    unfold Dotted at ha
    unfold dotsGo
    rw [if_neg (fun e => ha (.inl e)), if_neg (fun e => ha (.inr e))]
  | a :: b :: r, st, h => by
    have ha := h a (by simp)
    unfold Dotted at ha
    unfold dotsGo
    rw [if_neg (fun e => ha (.inl e)), if_neg (fun e => ha (.inr e)), dotsGo_plain (b :: r) _ (fun g hg => h g (List.mem_cons_of_mem _ hg))]
    simp
theorem splitD_join : ∀ {st : List (List Nat)}, st ≠ [] → (∀ g ∈ st, No (is 47) g) → splitD 47 (join st).tail = st
  | [], h, _ => absurd rfl h
  | [g], _, h => by
    rw [join_one]
    exact splitD_none (h g (by simp))
  | g :: k :: r, _, h => by
    rw [join_cons, join_cons]
    show splitD 47 (g ++ 47 :: (k ++ join r)) = _
    rw [splitD_hit _ (h g (by simp))]
    have := splitD_join (st := k :: r) (by simp) (fun x hx => h x (List.mem_cons_of_mem _ hx))
    rw [join_cons] at this
    rw [show k ++ join r = (47 :: (k ++ join r)).tail from rfl, this]

/-- What a form is made of. -/
structure Form (f sch h po : List Nat) (st : List (List Nat)) (qu : List Nat) : Prop where
  sch0 : Sch sch
  host : isHost h = true
  port : po = [] ∨ ∃ p, po = 58 :: p ∧ isPort p = true ∧ p ≠ usual sch
  ne : st ≠ []
  norm : ∀ g ∈ st, Norm false g
  nodot : ∀ g ∈ st, ¬ Dotted g
  no47 : ∀ g ∈ st, No (is 47) g
  query : qu = [] ∨ ∃ y, qu = 63 :: y ∧ Norm true y
  is : f = sch ++ (colon ++ (h ++ (po ++ (join st ++ qu))))
  len : f.length ≤ 200
theorem way_false_of {l f : List Nat} (h : way true l = some f) (hn : No (is 63) l) : Norm false f := by
  rw [← way_no63 l.length l (Nat.le_refl _) hn] at h
  exact norm_way l.length l f (Nat.le_refl _) h
theorem combine_some {sch h po pa qu f : List Nat} (hc : combine sch h po pa qu = some f) : isHost (lower h) = true ∧ (po = [] ∨ isPort po.tail = true) ∧ ∃ p y, way true pa.tail = some p ∧ way true qu.tail = some y ∧ f = sch ++ (colon ++ (lower h ++ ((if po = [] ∨ po.tail = usual sch then [] else po) ++ (dots p ++ (if qu = [] then [] else 63 :: y))))) := by
  unfold combine at hc
  split at hc
  · rename_i hcond
    rw [Bool.and_eq_true, Bool.or_eq_true, List.isEmpty_iff] at hcond
    split at hc
    · rename_i p y h1 h2
      exact ⟨hcond.1, hcond.2, p, y, h1, h2, (Option.some.inj hc).symm⟩
    · cases hc
  · cases hc
theorem form_of_parse {s f : List Nat} (h : parse s = (f, 0)) : ∃ sch hh po st qu, Form f sch hh po st qu := by
  cases hs : schemeOf s with
  | none => rw [parse_none hs] at h; cases h
  | some y =>
    obtain ⟨sch, t⟩ := y
    obtain ⟨u, rfl, hu, hS⟩ := schemeOf_some hs
    obtain ⟨hh, po, pa, qu, fr, rfl, P⟩ := parts_of t
    rw [parse_parts hu hS P] at h
    unfold finish at h
    split at h
    · cases h
    · rename_i g hc
      split at h
      · rename_i hl
        have e : g = f := (Prod.mk.inj h).1
        subst e
        obtain ⟨h1, h2, p, y, hp, hy, hf⟩ := combine_some hc
        have hpn : Norm false p := way_false_of hp (fun x hx => P.pa63 x (List.mem_of_mem_tail hx))
        have hyn := norm_way (q := true) _ _ y (Nat.le_refl _) hy
        have hmem := dotsGo_mem (splitD 47 p) []
        refine ⟨sch, lower hh, (if po = [] ∨ po.tail = usual sch then [] else po), dotsGo [] (splitD 47 p), (if qu = [] then [] else 63 :: y), hS, h1, ?_, dotsGo_ne _ _ (splitD_ne 47 p), ?_, ?_, ?_, ?_, hf, hl⟩
        · split
          · exact .inl rfl
          · rename_i hne
            right
            rcases P.po0 with e | ⟨c, t, e, hc58⟩
            · exact absurd (.inl e) hne
            · subst e
              have hc' : c = 58 := by simpa [is] using hc58
              subst hc'
              rcases h2 with h2 | h2
              · cases h2
              · exact ⟨t, rfl, h2, fun e => hne (.inr e)⟩
        · intro g hg
          rcases hmem g hg with h | h | h
          · cases h
          · exact norm_split hpn g h.1
          · subst h; exact .nil
        · intro g hg
          rcases hmem g hg with h | h | h
          · cases h
          · exact h.2
          · subst h; unfold Dotted; simp
        · intro g hg
          rcases hmem g hg with h | h | h
          · cases h
          · exact splitD_no 47 p g h.1
          · subst h; exact No.nil _
        · split
          · exact .inl rfl
          · exact .inr ⟨y, rfl, hyn⟩
      · cases h
theorem combine_eval {sch h po pa qu p y : List Nat} (hh : isHost (lower h) = true) (hp : po = [] ∨ isPort po.tail = true) (h1 : way true pa.tail = some p) (h2 : way true qu.tail = some y) :
    combine sch h po pa qu = some (sch ++ (colon ++ (lower h ++ ((if po = [] ∨ po.tail = usual sch then [] else po) ++ (dots p ++ (if qu = [] then [] else 63 :: y)))))) := by
  unfold combine
  rw [if_pos (by rw [Bool.and_eq_true, Bool.or_eq_true, List.isEmpty_iff]; exact ⟨hh, hp⟩), h1, h2]
theorem join_false {st : List (List Nat)} (h : ∀ g ∈ st, Norm false g) : Norm false (join st) := norm_join h
theorem join_form {st : List (List Nat)} (hne : st ≠ []) : ∃ r, join st = 47 :: r ∧ (join st).tail = r := by
  cases st with
  | nil => exact absurd rfl hne
  | cons g r => exact ⟨_, join_cons g r, by rw [join_cons]; rfl⟩
/-- A form's parts, its scheme and host in whatever letters, whatever segments ahead of its own. -/
theorem Form.parts {f sch h po : List Nat} {st : List (List Nat)} {qu : List Nat} (F : Form f sch h po st qu) {h0 e : List Nat} (hl : lower h0 = h) (e0 : Ends (AddrMath.is 47) e) (e63 : No (AddrMath.is 63) e) (e35 : No (AddrMath.is 35) e) : Parts5 h0 po (e ++ join st) qu [] := by
  obtain ⟨r, hr, _⟩ := join_form F.ne
  have hj := norm_chars (join_false F.norm)
  have hno : ∀ c, c < 65 → labC c = false → c ≠ 46 → No (AddrMath.is c) h0 := fun c h1 h2 h3 => lower_no h1 (by rw [hl]; exact host_no F.host h2 h3)
  refine ⟨hno 58 (by decide) (by decide) (by decide), hno 47 (by decide) (by decide) (by decide), hno 63 (by decide) (by decide) (by decide), hno 35 (by decide) (by decide) (by decide), ?_, ?_, ?_, ?_, ?_, ?_, ?_, ?_, ?_, Ends.nil _⟩
  · rcases F.port with rfl | ⟨p, rfl, _, _⟩
    · exact Ends.nil _
    · exact Ends.cons (by rfl) _
  · rcases F.port with rfl | ⟨p, rfl, h1, _⟩
    · exact No.nil _
    · exact No.cons (by decide) (port_no h1 (by decide))
  · rcases F.port with rfl | ⟨p, rfl, h1, _⟩
    · exact No.nil _
    · exact No.cons (by decide) (port_no h1 (by decide))
  · rcases F.port with rfl | ⟨p, rfl, h1, _⟩
    · exact No.nil _
    · exact No.cons (by decide) (port_no h1 (by decide))
  · rcases e0 with rfl | ⟨c, t, rfl, hc⟩
    · rw [List.nil_append, hr]; exact Ends.cons (by rfl) _
    · exact Ends.cons hc _
  · exact e63.app (fun x hx => by have := (hj x hx).2.2 rfl; simpa [AddrMath.is] using this)
  · exact e35.app (fun x hx => by have := (hj x hx).2.1; simpa [AddrMath.is] using this)
  · rcases F.query with rfl | ⟨y, rfl, _⟩
    · exact Ends.nil _
    · exact Ends.cons (by rfl) _
  · rcases F.query with rfl | ⟨y, rfl, hy⟩
    · exact No.nil _
    · exact No.cons (by decide) (fun x hx => by have := (norm_chars hy x hx).2.1; simpa [AddrMath.is] using this)
/-- Segments that lead nowhere. -/
def Idle (e : List Nat) : Prop := e = [] ∨ ∃ e', e = 47 :: e' ∧ No (is 63) e' ∧ No (is 35) e' ∧ ∀ t f, Norm false f → t = 47 :: f → ∃ d, way true (e' ++ t) = some (d ++ t) ∧ ∀ r, dotsGo [] (splitD 47 (d ++ 47 :: r)) = dotsGo [] (splitD 47 r)
theorem parse_again {f sch h po : List Nat} {st : List (List Nat)} {qu : List Nat} (F : Form f sch h po st qu) {u h0 e : List Nat} (hu : lower u = sch) (hl : lower h0 = h) (he : Idle e) :
    parse (u ++ (colon ++ (h0 ++ (po ++ ((e ++ join st) ++ qu))))) = (f, 0) := by
  have e0 : Ends (is 47) e ∧ No (is 63) e ∧ No (is 35) e := by
    rcases he with rfl | ⟨e', rfl, h1, h2, _⟩
    · exact ⟨Ends.nil _, No.nil _, No.nil _⟩
    · exact ⟨Ends.cons (by rfl) _, No.cons (by decide) h1, No.cons (by decide) h2⟩
  have P := F.parts hl e0.1 e0.2.1 e0.2.2
  have hp := parse_parts hu F.sch0 P
  rw [List.append_nil] at hp
  rw [hp]
  obtain ⟨r, hr, hrt⟩ := join_form F.ne
  have hjn := join_false F.norm
  have hrn : Norm false r := by
    have := norm_split hjn
    rw [hr] at hjn
    rw [← hrt]
    cases hs : st with
    | nil => exact absurd hs F.ne
    | cons g l =>
      rw [join_cons]
      exact (F.norm g (by rw [hs]; simp)).app (norm_join (fun x hx => F.norm x (by rw [hs]; simp [hx])))
  have hd0 : dotsGo [] (splitD 47 r) = st := by rw [← hrt, splitD_join F.ne F.no47, dotsGo_plain _ _ F.nodot]; rfl
  obtain ⟨p, hw, hdots⟩ : ∃ p, way true (e ++ join st).tail = some p ∧ dots p = join st := by
    rcases he with rfl | ⟨e', rfl, _, _, hx⟩
    · refine ⟨r, ?_, ?_⟩
      · rw [List.nil_append, hrt]; exact way_norm (norm_true hrn)
      · unfold dots; rw [hd0]
    · obtain ⟨d, hd1, hd2⟩ := hx (join st) r hrn hr
      refine ⟨d ++ join st, ?_, ?_⟩
      · show way true (e' ++ join st) = _
        exact hd1
      · unfold dots; rw [hr, hd2 r, hd0, hr]
  obtain ⟨y, hy, hq⟩ : ∃ y, way true qu.tail = some y ∧ (if qu = [] then [] else 63 :: y) = qu := by
    rcases F.query with rfl | ⟨y, rfl, hyn⟩
    · exact ⟨[], rfl, rfl⟩
    · exact ⟨y, way_norm hyn, rfl⟩
  have hpo : po = [] ∨ isPort po.tail = true := by
    rcases F.port with h | ⟨p, rfl, h1, _⟩
    · exact .inl h
    · exact .inr h1
  have hpo2 : (if po = [] ∨ po.tail = usual sch then [] else po) = po := by
    rcases F.port with rfl | ⟨p, rfl, h1, h2⟩
    · rfl
    · rw [if_neg]
      rintro (h | h)
      · cases h
      · exact h2 h
  rw [combine_eval (by rw [hl]; exact F.host) hpo hw hy, hdots, hq, hpo2, hl]
  have hf := F.is
  unfold finish
  rw [← hf]
  show (if f.length ≤ 200 then (f, 0) else ([], 23)) = (f, 0)
  rw [if_pos F.len]
theorem Form.self {f sch h po : List Nat} {st : List (List Nat)} {qu : List Nat} (F : Form f sch h po st qu) : parse f = (f, 0) := by
  have := parse_again F (u := sch) (h0 := h) (e := []) F.sch0.lower (host_lower F.host) (.inl rfl)
  rwa [List.nil_append, ← F.is] at this
/-- P5.4: the form of a form is itself. -/
theorem parse_parse {s f : List Nat} (h : parse s = (f, 0)) : parse f = (f, 0) := by
  obtain ⟨sch, hh, po, st, qu, F⟩ := form_of_parse h
  exact F.self
theorem Form.right {f sch h po : List Nat} {st : List (List Nat)} {qu : List Nat} (F : Form f sch h po st qu) : right f = true := by
  unfold AddrMath.right; rw [F.self]; simp
theorem Form.hostOf {f sch h po : List Nat} {st : List (List Nat)} {qu : List Nat} (F : Form f sch h po st qu) : hostOf f = h ++ po := by
  have P := F.parts (h0 := h) (e := []) (host_lower F.host) (Ends.nil _) (No.nil _) (No.nil _)
  obtain ⟨r, hr, _⟩ := join_form F.ne
  unfold AddrMath.hostOf
  rw [if_pos F.right]
  have hn : No (AddrMath.is 58) sch := Sch.no F.sch0.lower F.sch0 (by decide)
  have e1 : f = sch ++ 58 :: (47 :: 47 :: (h ++ (po ++ (join st ++ qu)))) := F.is
  rw [e1, post_hit (by rfl) _ hn]
  show pre (AddrMath.is 47) (h ++ (po ++ (join st ++ qu))) = _
  rw [hr, ← List.append_assoc, List.cons_append, pre_hit (by rfl) _ (P.h47.app P.po47)]
end AddrMath

/-
  How long what is made of an address is, and of which bytes.
-/
import Derived.Test.YteockpllnhjooaaGreatDoorAddrMore
namespace AddrMath
set_option linter.unusedVariables false
set_option linter.unusedSimpArgs false
open TxtMath (dec enc byteAt contAt valid)
/- lengths -/
theorem dotsGo_len : ∀ (l st : List (List Nat)), (join (dotsGo st l)).length ≤ (join st).length + (join l).length
  | [], st => by simp [dotsGo, join]
  | [g], st => by
    have hd : (join st.dropLast).length ≤ (join st).length := by
      rcases List.eq_nil_or_concat st with rfl | ⟨s, g, rfl⟩
      · simp
      · rw [List.concat_eq_append, List.dropLast_concat, join_app, List.length_append]; omega
    unfold dotsGo
    split
    · rename_i h; subst h; rw [join_app, List.length_append]; simp [join]
    · split
      · rename_i h; subst h; rw [join_app, List.length_append]; simp [join] at *; omega
      · rw [join_app, List.length_append]; omega
  | g :: h :: r, st => by
    have hd : (join st.dropLast).length ≤ (join st).length := by
      rcases List.eq_nil_or_concat st with rfl | ⟨s, g, rfl⟩
      · simp
      · rw [List.concat_eq_append, List.dropLast_concat, join_app, List.length_append]; omega
    have e : (join (g :: h :: r)).length = g.length + 1 + (join (h :: r)).length := by rw [join_cons, List.length_cons, List.length_append]; omega
    unfold dotsGo
    split
    · have := dotsGo_len (h :: r) st; omega
    · split
      · have := dotsGo_len (h :: r) st.dropLast; omega
      · have := dotsGo_len (h :: r) (st ++ [g])
        rw [join_app, List.length_append, join_one] at this
        simp only [List.length_cons] at this
        omega
theorem join_split (c : List Nat) : (join (splitD 47 c)).length = c.length + 1 := by
  induction c with
  | nil => rfl
  | cons x t ih =>
    rw [splitD_cons]
    split
    · rw [join_cons, List.length_cons, List.length_append, ih]; simp
    · split
      · rename_i e; exact absurd e (splitD_ne 47 t)
      · rename_i h r e
        rw [e, join_cons, List.length_cons, List.length_append] at ih
        rw [join_cons, List.length_cons, List.length_append, List.length_cons]
        simp at ih ⊢; omega
theorem dots_len (p : List Nat) : (dots p).length ≤ p.length + 1 := by
  have h1 := dotsGo_len (splitD 47 p) []
  rw [join_split] at h1
  unfold dots
  simp [join_nil] at h1
  exact h1
theorem escs_len3 (E : List Nat) : (E.flatMap escape).length = 3 * E.length := by
  induction E with
  | nil => rfl
  | cons x t ih => rw [List.flatMap_cons, List.length_append, ih]; simp [escape]; omega
theorem way_len {q : Bool} : ∀ (n : Nat) (l f : List Nat), l.length ≤ n → way q l = some f → f.length ≤ 3 * l.length
  | 0, l, f, h, hw => by have : l = [] := List.eq_nil_of_length_eq_zero (by omega); subst this; cases hw; simp
  | n + 1, [], f, h, hw => by cases hw; simp
  | n + 1, b :: t, f, h, hw => by
    simp only [List.length_cons] at h ⊢
    by_cases h1 : b = 37
    · subst h1
      rw [way_pct] at hw
      split at hw
      · rename_i v hv
        obtain ⟨y, hy, rfl⟩ := Option.map_eq_some_iff.1 hw
        have ih := way_len n (t.drop 2) y (by simp; omega) hy
        have hm : (meant v).length ≤ 3 := by unfold meant; split <;> simp [escape]
        rw [List.length_append]
        simp at ih
        omega
      · cases hw
    · by_cases h2 : b < 128
      · rw [way_low t h1 h2] at hw
        split at hw
        · obtain ⟨y, hy, rfl⟩ := Option.map_eq_some_iff.1 hw
          have := way_len n t y (by omega) hy
          simp; omega
        · cases hw
      · rw [way_high t (by omega)] at hw
        split at hw
        · cases hw
        · obtain ⟨y, hy, rfl⟩ := Option.map_eq_some_iff.1 hw
          have hp := (TxtMath.dec_pos (b :: t)).1
          have ih := way_len n _ y (by simp; omega) hy
          rw [List.length_append, escs_len3, List.length_take]
          simp only [List.length_drop, List.length_cons] at ih ⊢
          omega
theorem norm_lt {q : Bool} {f : List Nat} (h : Norm q f) : ∀ c ∈ f, c < 256 := fun c hc => by have := (norm_chars h c hc).1; omega
theorem dots_lt {p : List Nat} (h : ∀ c ∈ p, c < 256) : ∀ c ∈ dots p, c < 256 := by
  intro c hc
  unfold dots join at hc
  obtain ⟨g, hg, hc⟩ := List.mem_flatMap.1 hc
  rcases List.mem_cons.1 hc with rfl | hc
  · decide
  · rcases dotsGo_mem (splitD 47 p) [] g hg with h1 | h1 | h1
    · cases h1
    · exact h c (splitD_mem 47 p g h1.1 c hc)
    · subst h1; cases hc
theorem siteF_len (sch site : List Nat) : (siteF sch site).length ≤ site.length := by
  have := post_len (is 58) site
  unfold siteF
  rw [List.length_append, lower_len]
  split
  · simp; omega
  · omega
theorem siteF_lt {sch site : List Nat} (h : ∀ c ∈ site, c < 256) : ∀ c ∈ siteF sch site, c < 256 := by
  intro c hc
  unfold siteF at hc
  rcases List.mem_append.1 hc with h1 | h1
  · exact lower_lt (fun x hx => h x (pre_mem hx)) c h1
  · split at h1
    · cases h1
    · exact h c (post_mem h1)
theorem parse_lt (s : List Nat) : ∀ c ∈ (parse s).1, c < 256 := by
  rcases h : parse s with ⟨f, e⟩
  show ∀ c ∈ f, c < 256
  by_cases he : e = 0
  · subst he
    obtain ⟨sch, hh, po, st, qu, F⟩ := form_of_parse h
    intro c hc
    rw [F.is] at hc
    have hl : ∀ x, labC x = true ∨ x = 46 → x < 256 := by intro x hx; rcases hx with h | h; simp [labC] at h; omega; omega
    rcases List.mem_append.1 hc with h1 | h1
    · rcases F.sch0 with rfl | rfl
      · simp [http] at h1; omega
      · simp [https] at h1; omega
    · rcases List.mem_append.1 h1 with h1 | h1
      · simp [colon] at h1; omega
      · rcases List.mem_append.1 h1 with h1 | h1
        · exact hl c (host_chars F.host c h1)
        · rcases List.mem_append.1 h1 with h1 | h1
          · rcases F.port with rfl | ⟨p, rfl, hp, _⟩
            · cases h1
            · rcases List.mem_cons.1 h1 with rfl | h1
              · decide
              · have := (digit_iff c).1 (port_chars hp c h1); omega
          · rcases List.mem_append.1 h1 with h1 | h1
            · exact norm_lt (join_false F.norm) c h1
            · rcases F.query with rfl | ⟨y, rfl, hy⟩
              · cases h1
              · rcases List.mem_cons.1 h1 with rfl | h1
                · decide
                · exact norm_lt hy c h1
  · have : f = [] := by
      unfold parse finish at h
      split at h
      · exact (Prod.mk.inj h).1.symm
      · split at h
        · exact absurd (Prod.mk.inj h).2.symm he
        · exact (Prod.mk.inj h).1.symm
    subst this
    intro c hc; cases hc
theorem parse_err {s f : List Nat} {e : Nat} (h : parse s = (f, e)) (he : e ≠ 0) : f = [] := by
  unfold parse finish at h
  split at h
  · exact (Prod.mk.inj h).1.symm
  · split at h
    · exact absurd (Prod.mk.inj h).2.symm he
    · exact (Prod.mk.inj h).1.symm
theorem parse_len (s : List Nat) : (parse s).1.length ≤ 200 := by
  unfold parse finish
  split
  · simp
  · split
    · rename_i h; exact h
    · simp
theorem parse_code (s : List Nat) : (parse s).2 = 0 ∨ (parse s).2 = 23 ∨ (parse s).2 = 25 := by
  unfold parse finish
  split
  · simp
  · split <;> simp
end AddrMath

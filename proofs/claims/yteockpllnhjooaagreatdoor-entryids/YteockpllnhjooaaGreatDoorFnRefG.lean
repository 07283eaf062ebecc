/-
  Walk of newsreelref4.Parse.
-/
import Derived.Test.YteockpllnhjooaaGreatDoorFnRefE
import Derived.Test.YteockpllnhjooaaGreatDoorFnRefF
namespace Go.Proofs.YteockpllnhjooaaGreatDoor
open Go.RowKit NumMath
open AddrMath (pre post is No colon lower way dots combine finish parse http https isHost isPort value usual Sch Parts5 schemeOf)
set_option maxRecDepth 100000
set_option linter.unusedVariables false
set_option linter.unusedSimpArgs false

theorem refParse_any (s : List Nat) (w : World) (hb : ∀ c ∈ s, c < 256) (hm : s.length ≤ 10000) :
    Calls Tryz.prog 30 #[.string (strN s)] w fun e w' => e = .returned (parseV s) ∧ Below w.heap.size w w' := by
  have HV : parseV s = .tuple #[.string (strN (parse s).1), .int .i64 (((parse s).2 : Nat) : Int)] := rfl
  rw [HV]
  cases hs : schemeOf s with
  | none => rw [AddrMath.parse_none hs]; exact refParse_err s w hb hm hs
  | some y =>
    obtain ⟨sch, t⟩ := y
    obtain ⟨u, rfl, hu, hS⟩ := AddrMath.schemeOf_some hs
    obtain ⟨h, po, pa, qu, fr, rfl, P⟩ := AddrMath.parts_of t
    rw [AddrMath.parse_parts hu hS P]
    rcases hS with e | e
    · exact refParse_80 u sch h po pa qu fr w hu e P hb hm
    · exact refParse_443 u sch h po pa qu fr w hu e P hb hm
end Go.Proofs.YteockpllnhjooaaGreatDoor

/-
  DERIVED. GIVEN WITH THE SEED: THE CARDS: each row of YtpffjeoiacaihabDoorRows.lean that lists a variable, with what it lists TIED to the program's text (the seventh form; the later family's looks); each row that meets fmt, with fmt's text TOLD by the authors' own Lean function (tested against real Go, not proved from fmt's source: count such statements apart). THE CARD IS WHAT COUNTS. Prove the row's statement (the work); the ties are given (YtpffjeoiacaihabDoorTie.lean); close each card by the builder's one call (the guide's Derived/Test/ToyasCard.lean, 'card_holds'). Laid BY PROGRAM, IN A SANDBOX (cutbox-door.mjs). By AI agents, Wed Nov 11 2026. No macro, syntax, notation, axiom, sorry.
-/
import Derived.Test.YtpffjeoiacaihabDoorRows
import GoSem.ClaimSeven
namespace Go.Proofs.YtpffjeoiacaihabDoor
namespace Rows

/-- THE TIED CARD OF 'newsreellaw4.TextOrder'. -/
def textOrderCard : Claim7 := { stood := { row := textOrderRow, standIns := [], harness := (true, "a26cb87bd9da8e1763e3c69dc97d1fb45fb834f4a803e2b73aba4a70da718d00"), looks := false }, kinds := [], alts := [], laidByText := true, laidKinds := [.data, .pinned], laidTests := true, laidLooks := .later }
def TextOrderCardSaid : Prop := Claim7.holds Tryd.pinned (.plain (OpenSpec.ofChange textOrderSpec)) textOrderCard

/-- THE SECOND FORM's CARD OF 'newsreellaw4.TextOrder'. -/
def textOrderUptoCard : Claim7 := { stood := { row := textOrderUptoRow, standIns := [], harness := (true, "a26cb87bd9da8e1763e3c69dc97d1fb45fb834f4a803e2b73aba4a70da718d00"), looks := false }, kinds := [], alts := [], laidByText := true, laidKinds := [.data, .pinned], laidTests := true, laidLooks := .later }
def TextOrderUptoCardSaid : Prop := Claim7.holds Tryd.pinned (.plain (OpenSpec.upto textOrderSpec)) textOrderUptoCard
end Rows
end Go.Proofs.YtpffjeoiacaihabDoor

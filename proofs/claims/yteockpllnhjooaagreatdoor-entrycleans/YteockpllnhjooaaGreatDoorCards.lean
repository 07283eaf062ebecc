/-
  DERIVED. GIVEN WITH THE SEED: THE CARDS: each row of YteockpllnhjooaaGreatDoorRows.lean that lists a variable, with what it lists TIED to the program's text (the seventh form; the later family's looks); each row that meets fmt, with fmt's text TOLD by the authors' own Lean function (tested against real Go, not proved from fmt's source: count such statements apart). THE CARD IS WHAT COUNTS. Prove the row's statement (the work); the ties are given (YteockpllnhjooaaGreatDoorTie.lean); close each card by the builder's one call (the guide's Derived/Test/ToyasCard.lean, 'card_holds'). Laid BY PROGRAM, IN A SANDBOX (cutbox-door.mjs). By AI agents, Wed Nov 11 2026. No macro, syntax, notation, axiom, sorry.
-/
import Derived.Test.YteockpllnhjooaaGreatDoorRows
import GoSem.ClaimSeven
namespace Go.Proofs.YteockpllnhjooaaGreatDoor
namespace Rows

/-- THE TIED CARD OF 'newsreellaw6.EntryCleans'. -/
def entryCleansCard : Claim7 := { stood := { row := entryCleansRow, standIns := [], harness := (true, "fb9dbc8d93b991de0d54b5afaa4dcd6bed08bf9681aa511cb5a047eff5d8c70d"), looks := false }, kinds := [], alts := [], laidByText := true, laidKinds := [.data, .data, .data, .pinned], laidTests := true, laidLooks := .later }
def EntryCleansCardSaid : Prop := Claim7.holds Tryz.pinned (.plain (OpenSpec.ofChange entryCleansSpec)) entryCleansCard

/-- THE TIED CARD OF 'newsreellaw6.EntryLays'. -/
def entryLaysCard : Claim7 := { stood := { row := entryLaysRow, standIns := [], harness := (true, "fb9dbc8d93b991de0d54b5afaa4dcd6bed08bf9681aa511cb5a047eff5d8c70d"), looks := false }, kinds := [], alts := [], laidByText := true, laidKinds := [.data, .data, .data, .data, .pinned], laidTests := true, laidLooks := .later }
def EntryLaysCardSaid : Prop := Claim7.holds Tryz.pinned (.plain (OpenSpec.ofChange entryLaysSpec)) entryLaysCard

/-- THE TIED CARD OF 'newsreellaw6.EntryIds'. -/
def entryIdsCard : Claim7 := { stood := { row := entryIdsRow, standIns := [], harness := (true, "fb9dbc8d93b991de0d54b5afaa4dcd6bed08bf9681aa511cb5a047eff5d8c70d"), looks := false }, kinds := [], alts := [], laidByText := true, laidKinds := [.data, .data, .data, .pinned], laidTests := true, laidLooks := .later }
def EntryIdsCardSaid : Prop := Claim7.holds Tryz.pinned (.plain (OpenSpec.ofChange entryIdsSpec)) entryIdsCard

/-- THE SECOND FORM's CARD OF 'newsreellaw6.EntryCleans'. -/
def entryCleansUptoCard : Claim7 := { stood := { row := entryCleansUptoRow, standIns := [], harness := (true, "fb9dbc8d93b991de0d54b5afaa4dcd6bed08bf9681aa511cb5a047eff5d8c70d"), looks := false }, kinds := [], alts := [], laidByText := true, laidKinds := [.data, .data, .data, .pinned], laidTests := true, laidLooks := .later }
def EntryCleansUptoCardSaid : Prop := Claim7.holds Tryz.pinned (.plain (OpenSpec.upto entryCleansSpec)) entryCleansUptoCard

/-- THE SECOND FORM's CARD OF 'newsreellaw6.EntryLays'. -/
def entryLaysUptoCard : Claim7 := { stood := { row := entryLaysUptoRow, standIns := [], harness := (true, "fb9dbc8d93b991de0d54b5afaa4dcd6bed08bf9681aa511cb5a047eff5d8c70d"), looks := false }, kinds := [], alts := [], laidByText := true, laidKinds := [.data, .data, .data, .data, .pinned], laidTests := true, laidLooks := .later }
def EntryLaysUptoCardSaid : Prop := Claim7.holds Tryz.pinned (.plain (OpenSpec.upto entryLaysSpec)) entryLaysUptoCard

/-- THE SECOND FORM's CARD OF 'newsreellaw6.EntryIds'. -/
def entryIdsUptoCard : Claim7 := { stood := { row := entryIdsUptoRow, standIns := [], harness := (true, "fb9dbc8d93b991de0d54b5afaa4dcd6bed08bf9681aa511cb5a047eff5d8c70d"), looks := false }, kinds := [], alts := [], laidByText := true, laidKinds := [.data, .data, .data, .pinned], laidTests := true, laidLooks := .later }
def EntryIdsUptoCardSaid : Prop := Claim7.holds Tryz.pinned (.plain (OpenSpec.upto entryIdsSpec)) entryIdsUptoCard
end Rows
end Go.Proofs.YteockpllnhjooaaGreatDoor

/-
  DERIVED. GIVEN WITH THE SEED: THE CARDS: each row of YtdikjodgendgdaaGreatDoorRows.lean that lists a variable, with what it lists TIED to the program's text (the seventh form; the later family's looks); each row that meets fmt, with fmt's text TOLD by the authors' own Lean function (tested against real Go, not proved from fmt's source: count such statements apart). THE CARD IS WHAT COUNTS. Prove the row's statement (the work); the ties are given (YtdikjodgendgdaaGreatDoorTie.lean); close each card by the builder's one call (the guide's Derived/Test/ToyasCard.lean, 'card_holds'). Laid BY PROGRAM, IN A SANDBOX (cutbox-door.mjs). By AI agents, Wed Nov 11 2026. No macro, syntax, notation, axiom, sorry.
-/
import Derived.Test.YtdikjodgendgdaaGreatDoorRows
import GoSem.ClaimSeven
namespace Go.Proofs.YtdikjodgendgdaaGreatDoor
namespace Rows

/-- THE TIED CARD OF 'newsreellaw6.EntryCleans'. -/
def entryCleansCard : Claim7 := { stood := { row := entryCleansRow, standIns := [], harness := (true, "731e9c6ca2d6b35a23573e7f07c3da8e9ee20327f4448fc1ffc2137f0633b1b6"), looks := false }, kinds := [], alts := [], laidByText := true, laidKinds := [.data, .data, .data, .pinned], laidTests := true, laidLooks := .later }
def EntryCleansCardSaid : Prop := Claim7.holds Tryz.pinned (.plain (OpenSpec.ofChange entryCleansSpec)) entryCleansCard

/-- THE TIED CARD OF 'newsreellaw6.EntryLays'. -/
def entryLaysCard : Claim7 := { stood := { row := entryLaysRow, standIns := [], harness := (true, "731e9c6ca2d6b35a23573e7f07c3da8e9ee20327f4448fc1ffc2137f0633b1b6"), looks := false }, kinds := [], alts := [], laidByText := true, laidKinds := [.data, .data, .data, .data, .pinned], laidTests := true, laidLooks := .later }
def EntryLaysCardSaid : Prop := Claim7.holds Tryz.pinned (.plain (OpenSpec.ofChange entryLaysSpec)) entryLaysCard

/-- THE TIED CARD OF 'newsreellaw6.EntryReads'. -/
def entryReadsCard : Claim7 := { stood := { row := entryReadsRow, standIns := [], harness := (true, "731e9c6ca2d6b35a23573e7f07c3da8e9ee20327f4448fc1ffc2137f0633b1b6"), looks := false }, kinds := [], alts := [], laidByText := true, laidKinds := [.data, .data, .data, .pinned], laidTests := true, laidLooks := .later }
def EntryReadsCardSaid : Prop := Claim7.holds Tryz.pinned (.plain (OpenSpec.ofChange entryReadsSpec)) entryReadsCard

/-- THE TIED CARD OF 'newsreellaw6.EntryShort'. -/
def entryShortCard : Claim7 := { stood := { row := entryShortRow, standIns := [], harness := (true, "731e9c6ca2d6b35a23573e7f07c3da8e9ee20327f4448fc1ffc2137f0633b1b6"), looks := false }, kinds := [], alts := [], laidByText := true, laidKinds := [.data, .data, .data, .pinned], laidTests := true, laidLooks := .later }
def EntryShortCardSaid : Prop := Claim7.holds Tryz.pinned (.plain (OpenSpec.ofChange entryShortSpec)) entryShortCard

/-- THE TIED CARD OF 'newsreellaw6.EntryIds'. -/
def entryIdsCard : Claim7 := { stood := { row := entryIdsRow, standIns := [], harness := (true, "731e9c6ca2d6b35a23573e7f07c3da8e9ee20327f4448fc1ffc2137f0633b1b6"), looks := false }, kinds := [], alts := [], laidByText := true, laidKinds := [.data, .data, .data, .pinned], laidTests := true, laidLooks := .later }
def EntryIdsCardSaid : Prop := Claim7.holds Tryz.pinned (.plain (OpenSpec.ofChange entryIdsSpec)) entryIdsCard

/-- THE SECOND FORM's CARD OF 'newsreellaw6.EntryCleans'. -/
def entryCleansUptoCard : Claim7 := { stood := { row := entryCleansUptoRow, standIns := [], harness := (true, "731e9c6ca2d6b35a23573e7f07c3da8e9ee20327f4448fc1ffc2137f0633b1b6"), looks := false }, kinds := [], alts := [], laidByText := true, laidKinds := [.data, .data, .data, .pinned], laidTests := true, laidLooks := .later }
def EntryCleansUptoCardSaid : Prop := Claim7.holds Tryz.pinned (.plain (OpenSpec.upto entryCleansSpec)) entryCleansUptoCard

/-- THE SECOND FORM's CARD OF 'newsreellaw6.EntryLays'. -/
def entryLaysUptoCard : Claim7 := { stood := { row := entryLaysUptoRow, standIns := [], harness := (true, "731e9c6ca2d6b35a23573e7f07c3da8e9ee20327f4448fc1ffc2137f0633b1b6"), looks := false }, kinds := [], alts := [], laidByText := true, laidKinds := [.data, .data, .data, .data, .pinned], laidTests := true, laidLooks := .later }
def EntryLaysUptoCardSaid : Prop := Claim7.holds Tryz.pinned (.plain (OpenSpec.upto entryLaysSpec)) entryLaysUptoCard

/-- THE SECOND FORM's CARD OF 'newsreellaw6.EntryReads'. -/
def entryReadsUptoCard : Claim7 := { stood := { row := entryReadsUptoRow, standIns := [], harness := (true, "731e9c6ca2d6b35a23573e7f07c3da8e9ee20327f4448fc1ffc2137f0633b1b6"), looks := false }, kinds := [], alts := [], laidByText := true, laidKinds := [.data, .data, .data, .pinned], laidTests := true, laidLooks := .later }
def EntryReadsUptoCardSaid : Prop := Claim7.holds Tryz.pinned (.plain (OpenSpec.upto entryReadsSpec)) entryReadsUptoCard

/-- THE SECOND FORM's CARD OF 'newsreellaw6.EntryShort'. -/
def entryShortUptoCard : Claim7 := { stood := { row := entryShortUptoRow, standIns := [], harness := (true, "731e9c6ca2d6b35a23573e7f07c3da8e9ee20327f4448fc1ffc2137f0633b1b6"), looks := false }, kinds := [], alts := [], laidByText := true, laidKinds := [.data, .data, .data, .pinned], laidTests := true, laidLooks := .later }
def EntryShortUptoCardSaid : Prop := Claim7.holds Tryz.pinned (.plain (OpenSpec.upto entryShortSpec)) entryShortUptoCard

/-- THE SECOND FORM's CARD OF 'newsreellaw6.EntryIds'. -/
def entryIdsUptoCard : Claim7 := { stood := { row := entryIdsUptoRow, standIns := [], harness := (true, "731e9c6ca2d6b35a23573e7f07c3da8e9ee20327f4448fc1ffc2137f0633b1b6"), looks := false }, kinds := [], alts := [], laidByText := true, laidKinds := [.data, .data, .data, .pinned], laidTests := true, laidLooks := .later }
def EntryIdsUptoCardSaid : Prop := Claim7.holds Tryz.pinned (.plain (OpenSpec.upto entryIdsSpec)) entryIdsUptoCard
end Rows
end Go.Proofs.YtdikjodgendgdaaGreatDoor

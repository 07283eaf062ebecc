/-
  DERIVED. GIVEN WITH THE SEED: THE CARDS: each row of YtmdpakkldapciaaDoorRows.lean that lists a variable, with what it lists TIED to the program's text (the seventh form; the later family's looks); each row that meets fmt, with fmt's text TOLD by the authors' own Lean function (tested against real Go, not proved from fmt's source: count such statements apart). THE CARD IS WHAT COUNTS. Prove the row's statement (the work); the ties are given (YtmdpakkldapciaaDoorTie.lean); close each card by the builder's one call (the guide's Derived/Test/ToyasCard.lean, 'card_holds'). Laid BY PROGRAM, IN A SANDBOX (cutbox-door.mjs). By AI agents, Wed Nov 11 2026. No macro, syntax, notation, axiom, sorry.
-/
import Derived.Test.YtmdpakkldapciaaDoorRows
import GoSem.ClaimSeven
namespace Go.Proofs.YtmdpakkldapciaaDoor
namespace Rows

/-- THE TIED CARD OF 'newsreellaw5.AddrParses'. -/
def addrParsesCard : Claim7 := { stood := { row := addrParsesRow, standIns := [], harness := (true, "fb013547753c28d06a6a999d48f1af862402a0d0474122ae0bc5f3d89515733f"), looks := false }, kinds := [], alts := [], laidByText := true, laidKinds := [.data, .pinned], laidTests := true, laidLooks := .later }
def AddrParsesCardSaid : Prop := Claim7.holds Tryd.pinned (.plain (OpenSpec.ofChange addrParsesSpec)) addrParsesCard

/-- THE TIED CARD OF 'newsreellaw5.AddrTwice'. -/
def addrTwiceCard : Claim7 := { stood := { row := addrTwiceRow, standIns := [], harness := (true, "fb013547753c28d06a6a999d48f1af862402a0d0474122ae0bc5f3d89515733f"), looks := false }, kinds := [], alts := [], laidByText := true, laidKinds := [.data, .pinned], laidTests := true, laidLooks := .later }
def AddrTwiceCardSaid : Prop := Claim7.holds Tryd.pinned (.plain (OpenSpec.ofChange addrTwiceSpec)) addrTwiceCard

/-- THE TIED CARD OF 'newsreellaw5.AddrNumber'. -/
def addrNumberCard : Claim7 := { stood := { row := addrNumberRow, standIns := [], harness := (true, "fb013547753c28d06a6a999d48f1af862402a0d0474122ae0bc5f3d89515733f"), looks := false }, kinds := [], alts := [], laidByText := true, laidKinds := [.data, .pinned], laidTests := true, laidLooks := .later }
def AddrNumberCardSaid : Prop := Claim7.holds Tryd.pinned (.plain (OpenSpec.ofChange addrNumberSpec)) addrNumberCard

/-- THE TIED CARD OF 'newsreellaw5.AddrMark'. -/
def addrMarkCard : Claim7 := { stood := { row := addrMarkRow, standIns := [], harness := (true, "fb013547753c28d06a6a999d48f1af862402a0d0474122ae0bc5f3d89515733f"), looks := false }, kinds := [], alts := [], laidByText := true, laidKinds := [.data, .pinned], laidTests := true, laidLooks := .later }
def AddrMarkCardSaid : Prop := Claim7.holds Tryd.pinned (.plain (OpenSpec.ofChange addrMarkSpec)) addrMarkCard

/-- THE TIED CARD OF 'newsreellaw5.AddrSame'. -/
def addrSameCard : Claim7 := { stood := { row := addrSameRow, standIns := [], harness := (true, "fb013547753c28d06a6a999d48f1af862402a0d0474122ae0bc5f3d89515733f"), looks := false }, kinds := [], alts := [], laidByText := true, laidKinds := [.data, .pinned], laidTests := true, laidLooks := .later }
def AddrSameCardSaid : Prop := Claim7.holds Tryd.pinned (.plain (OpenSpec.ofChange addrSameSpec)) addrSameCard

/-- THE TIED CARD OF 'newsreellaw5.AddrBytes'. -/
def addrBytesCard : Claim7 := { stood := { row := addrBytesRow, standIns := [], harness := (true, "fb013547753c28d06a6a999d48f1af862402a0d0474122ae0bc5f3d89515733f"), looks := false }, kinds := [], alts := [], laidByText := true, laidKinds := [.data, .pinned], laidTests := true, laidLooks := .later }
def AddrBytesCardSaid : Prop := Claim7.holds Tryd.pinned (.plain (OpenSpec.ofChange addrBytesSpec)) addrBytesCard

/-- THE TIED CARD OF 'newsreellaw5.AddrOrder'. -/
def addrOrderCard : Claim7 := { stood := { row := addrOrderRow, standIns := [], harness := (true, "fb013547753c28d06a6a999d48f1af862402a0d0474122ae0bc5f3d89515733f"), looks := false }, kinds := [], alts := [], laidByText := true, laidKinds := [.data, .pinned], laidTests := true, laidLooks := .later }
def AddrOrderCardSaid : Prop := Claim7.holds Tryd.pinned (.plain (OpenSpec.ofChange addrOrderSpec)) addrOrderCard

/-- THE SECOND FORM's CARD OF 'newsreellaw5.AddrParses'. -/
def addrParsesUptoCard : Claim7 := { stood := { row := addrParsesUptoRow, standIns := [], harness := (true, "fb013547753c28d06a6a999d48f1af862402a0d0474122ae0bc5f3d89515733f"), looks := false }, kinds := [], alts := [], laidByText := true, laidKinds := [.data, .pinned], laidTests := true, laidLooks := .later }
def AddrParsesUptoCardSaid : Prop := Claim7.holds Tryd.pinned (.plain (OpenSpec.upto addrParsesSpec)) addrParsesUptoCard

/-- THE SECOND FORM's CARD OF 'newsreellaw5.AddrTwice'. -/
def addrTwiceUptoCard : Claim7 := { stood := { row := addrTwiceUptoRow, standIns := [], harness := (true, "fb013547753c28d06a6a999d48f1af862402a0d0474122ae0bc5f3d89515733f"), looks := false }, kinds := [], alts := [], laidByText := true, laidKinds := [.data, .pinned], laidTests := true, laidLooks := .later }
def AddrTwiceUptoCardSaid : Prop := Claim7.holds Tryd.pinned (.plain (OpenSpec.upto addrTwiceSpec)) addrTwiceUptoCard

/-- THE SECOND FORM's CARD OF 'newsreellaw5.AddrNumber'. -/
def addrNumberUptoCard : Claim7 := { stood := { row := addrNumberUptoRow, standIns := [], harness := (true, "fb013547753c28d06a6a999d48f1af862402a0d0474122ae0bc5f3d89515733f"), looks := false }, kinds := [], alts := [], laidByText := true, laidKinds := [.data, .pinned], laidTests := true, laidLooks := .later }
def AddrNumberUptoCardSaid : Prop := Claim7.holds Tryd.pinned (.plain (OpenSpec.upto addrNumberSpec)) addrNumberUptoCard

/-- THE SECOND FORM's CARD OF 'newsreellaw5.AddrMark'. -/
def addrMarkUptoCard : Claim7 := { stood := { row := addrMarkUptoRow, standIns := [], harness := (true, "fb013547753c28d06a6a999d48f1af862402a0d0474122ae0bc5f3d89515733f"), looks := false }, kinds := [], alts := [], laidByText := true, laidKinds := [.data, .pinned], laidTests := true, laidLooks := .later }
def AddrMarkUptoCardSaid : Prop := Claim7.holds Tryd.pinned (.plain (OpenSpec.upto addrMarkSpec)) addrMarkUptoCard

/-- THE SECOND FORM's CARD OF 'newsreellaw5.AddrSame'. -/
def addrSameUptoCard : Claim7 := { stood := { row := addrSameUptoRow, standIns := [], harness := (true, "fb013547753c28d06a6a999d48f1af862402a0d0474122ae0bc5f3d89515733f"), looks := false }, kinds := [], alts := [], laidByText := true, laidKinds := [.data, .pinned], laidTests := true, laidLooks := .later }
def AddrSameUptoCardSaid : Prop := Claim7.holds Tryd.pinned (.plain (OpenSpec.upto addrSameSpec)) addrSameUptoCard

/-- THE SECOND FORM's CARD OF 'newsreellaw5.AddrBytes'. -/
def addrBytesUptoCard : Claim7 := { stood := { row := addrBytesUptoRow, standIns := [], harness := (true, "fb013547753c28d06a6a999d48f1af862402a0d0474122ae0bc5f3d89515733f"), looks := false }, kinds := [], alts := [], laidByText := true, laidKinds := [.data, .pinned], laidTests := true, laidLooks := .later }
def AddrBytesUptoCardSaid : Prop := Claim7.holds Tryd.pinned (.plain (OpenSpec.upto addrBytesSpec)) addrBytesUptoCard

/-- THE SECOND FORM's CARD OF 'newsreellaw5.AddrOrder'. -/
def addrOrderUptoCard : Claim7 := { stood := { row := addrOrderUptoRow, standIns := [], harness := (true, "fb013547753c28d06a6a999d48f1af862402a0d0474122ae0bc5f3d89515733f"), looks := false }, kinds := [], alts := [], laidByText := true, laidKinds := [.data, .pinned], laidTests := true, laidLooks := .later }
def AddrOrderUptoCardSaid : Prop := Claim7.holds Tryd.pinned (.plain (OpenSpec.upto addrOrderSpec)) addrOrderUptoCard
end Rows
end Go.Proofs.YtmdpakkldapciaaDoor

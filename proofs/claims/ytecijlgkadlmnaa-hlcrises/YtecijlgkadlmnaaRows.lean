/-
  No cell of these rows narrows 'for every input' (looked for: loops, veiled, ifaces, maps, wideKeys, modest, calm, conditions, laid).
  DERIVED. THE GIVEN ROWS OF THIS SEAT. 5 by the template 'for every input the law returns true; each argument reads behind the call as it read before'; 0 by the template 'total and deterministic' (their statements: YtecijlgkadlmnaaTotals.lean).
  GIVEN WITH THE SEED: the statements are not yours to turn. If you find one false, say at which input.
  Laid BY PROGRAM, IN A SANDBOX (cutbox-rows.mjs): the forced cells as the released guide's own fill.sh prints them over the translation 3ce3efe349504c78… (all of the seat's roots in one cut). By AI agents, Wed Nov 11 2026. No macro, syntax, notation, axiom, sorry.
-/
import Derived.Test.YtecijlgkadlmnaaChecked
import GoSem.Claim
import GoSem.ClaimJoined
import GoSem.ClaimMapViews
import Derived.JoinedTies
import Derived.KernelRfl
namespace Go.Proofs.Ytecijlgkadlmnaa
/- THE CELL 'sum', in the pinned program and in every row, IS THE sha256 OF THE DUMP (.gsa) THAT YtecijlgkadlmnaaProg.lean LOADS. Nothing in Lean hashes anything: it is a label: what it is worth is what the hold of that sum in a sandbox is worth. -/
noncomputable def Try.pinned : Pinned := { name := "ytecijlgkadlmnaa", sum := "3ce3efe349504c7838d5bb0ebe423fe33019ab22148960957cedafb895a0b017", checked := Try.checked }
namespace Rows
def none {H : Type} : Left H := { results := [], args := [] }

/-- 'newsreellaw8.HlcPlays': WHATEVER THE INPUT: true; the input reads as it did. -/
def hlcPlaysSpec : ChangeSpec := { name := "hlcPlays", fn := fun _ => fun
  | [d1, d2, d3, d4, d5] => { results := [.lit (.bool true)], args := [d1, d2, d3, d4, d5] }
  | _ => none }
def hlcPlaysRow : OpenClaim := { program := "ytecijlgkadlmnaa", sum := "3ce3efe349504c7838d5bb0ebe423fe33019ab22148960957cedafb895a0b017", func := "newsreel/newsreellaw8.HlcPlays", spec := "hlcPlays", apart := false }
def HlcPlaysSaid : Prop := hlcPlaysRow.holds Try.pinned (OpenSpec.ofChange hlcPlaysSpec)

/-- ITS FALSE NEIGHBOUR: 'it returns false'. Refute it at one input. -/
def hlcPlaysWrong : ChangeSpec := { name := "hlcPlays", fn := fun _ => fun
  | [d1, d2, d3, d4, d5] => { results := [.lit (.bool false)], args := [d1, d2, d3, d4, d5] }
  | _ => none }
def HlcPlaysWrongFalsely : Prop := hlcPlaysRow.holds Try.pinned (OpenSpec.ofChange hlcPlaysWrong)

/-- 'newsreellaw8.HlcRises': WHATEVER THE INPUT: true; the input reads as it did. -/
def hlcRisesSpec : ChangeSpec := { name := "hlcRises", fn := fun _ => fun
  | [d1, d2] => { results := [.lit (.bool true)], args := [d1, d2] }
  | _ => none }
def hlcRisesRow : OpenClaim := { program := "ytecijlgkadlmnaa", sum := "3ce3efe349504c7838d5bb0ebe423fe33019ab22148960957cedafb895a0b017", func := "newsreel/newsreellaw8.HlcRises", spec := "hlcRises", apart := false }
def HlcRisesSaid : Prop := hlcRisesRow.holds Try.pinned (OpenSpec.ofChange hlcRisesSpec)

/-- ITS FALSE NEIGHBOUR: 'it returns false'. Refute it at one input. -/
def hlcRisesWrong : ChangeSpec := { name := "hlcRises", fn := fun _ => fun
  | [d1, d2] => { results := [.lit (.bool false)], args := [d1, d2] }
  | _ => none }
def HlcRisesWrongFalsely : Prop := hlcRisesRow.holds Try.pinned (OpenSpec.ofChange hlcRisesWrong)

/-- 'newsreellaw8.HlcDrift': WHATEVER THE INPUT: true; the input reads as it did. -/
def hlcDriftSpec : ChangeSpec := { name := "hlcDrift", fn := fun _ => fun
  | [d1, d2, d3, d4] => { results := [.lit (.bool true)], args := [d1, d2, d3, d4] }
  | _ => none }
def hlcDriftRow : OpenClaim := { program := "ytecijlgkadlmnaa", sum := "3ce3efe349504c7838d5bb0ebe423fe33019ab22148960957cedafb895a0b017", func := "newsreel/newsreellaw8.HlcDrift", spec := "hlcDrift", apart := false }
def HlcDriftSaid : Prop := hlcDriftRow.holds Try.pinned (OpenSpec.ofChange hlcDriftSpec)

/-- ITS FALSE NEIGHBOUR: 'it returns false'. Refute it at one input. -/
def hlcDriftWrong : ChangeSpec := { name := "hlcDrift", fn := fun _ => fun
  | [d1, d2, d3, d4] => { results := [.lit (.bool false)], args := [d1, d2, d3, d4] }
  | _ => none }
def HlcDriftWrongFalsely : Prop := hlcDriftRow.holds Try.pinned (OpenSpec.ofChange hlcDriftWrong)

/-- 'newsreellaw8.HlcEnd': WHATEVER THE INPUT: true; the input reads as it did. -/
def hlcEndSpec : ChangeSpec := { name := "hlcEnd", fn := fun _ => fun
  | [d1, d2, d3] => { results := [.lit (.bool true)], args := [d1, d2, d3] }
  | _ => none }
def hlcEndRow : OpenClaim := { program := "ytecijlgkadlmnaa", sum := "3ce3efe349504c7838d5bb0ebe423fe33019ab22148960957cedafb895a0b017", func := "newsreel/newsreellaw8.HlcEnd", spec := "hlcEnd", apart := false }
def HlcEndSaid : Prop := hlcEndRow.holds Try.pinned (OpenSpec.ofChange hlcEndSpec)

/-- ITS FALSE NEIGHBOUR: 'it returns false'. Refute it at one input. -/
def hlcEndWrong : ChangeSpec := { name := "hlcEnd", fn := fun _ => fun
  | [d1, d2, d3] => { results := [.lit (.bool false)], args := [d1, d2, d3] }
  | _ => none }
def HlcEndWrongFalsely : Prop := hlcEndRow.holds Try.pinned (OpenSpec.ofChange hlcEndWrong)

/-- 'newsreellaw8.HlcPeek': WHATEVER THE INPUT: true; the input reads as it did. -/
def hlcPeekSpec : ChangeSpec := { name := "hlcPeek", fn := fun _ => fun
  | [d1, d2] => { results := [.lit (.bool true)], args := [d1, d2] }
  | _ => none }
def hlcPeekRow : OpenClaim := { program := "ytecijlgkadlmnaa", sum := "3ce3efe349504c7838d5bb0ebe423fe33019ab22148960957cedafb895a0b017", func := "newsreel/newsreellaw8.HlcPeek", spec := "hlcPeek", apart := false }
def HlcPeekSaid : Prop := hlcPeekRow.holds Try.pinned (OpenSpec.ofChange hlcPeekSpec)

/-- ITS FALSE NEIGHBOUR: 'it returns false'. Refute it at one input. -/
def hlcPeekWrong : ChangeSpec := { name := "hlcPeek", fn := fun _ => fun
  | [d1, d2] => { results := [.lit (.bool false)], args := [d1, d2] }
  | _ => none }
def HlcPeekWrongFalsely : Prop := hlcPeekRow.holds Try.pinned (OpenSpec.ofChange hlcPeekWrong)

/- THE SECOND FORM. 'bulk': how many values and letters a reading holds, each counted each time it is reached (what is shared counts as often as it is met; a slice's spare places count too). A statement '..UptoSaid' is the law's where the arguments, and the package variables that the reading takes, are together of bulk at most 1048576: NARROWER than '..Said'. Prove '..Said' where nothing that the law and all that it calls make is longer than what came in: it says more and counts as full. Else prove '..UptoSaid'. A law counts once. -/
mutual
def uptoBulk {H : Type} : DataW H → Nat
  | .lit (.string bytes) => bytes.length + 1
  | .lit _ => 1
  | .nil => 1
  | .ptr d => uptoBulk d + 1
  | .slice elems spare => uptoBulkAll elems + uptoBulkAll spare + 1
  | .agg parts => uptoBulkAll parts + 1
  | .iface _ d => uptoBulk d + 1
  | .map entries => uptoBulkEntries entries + 1
  | .held _ => 1
def uptoBulkAll {H : Type} : List (DataW H) → Nat
  | [] => 0
  | d :: r => uptoBulk d + uptoBulkAll r
def uptoBulkEntries {H : Type} : List (Lit × DataW H) → Nat
  | [] => 0
  | x :: r => uptoBulkEntry x + uptoBulkEntries r
def uptoBulkEntry {H : Type} : Lit × DataW H → Nat
  | (.string bytes, d) => bytes.length + uptoBulk d + 1
  | (_, d) => uptoBulk d + 1
 end
def uptoSmall : (H : Type) → List (DataW H) → Bool := fun _ ds => decide (uptoBulkAll ds ≤ 1048576)
def OpenSpec.upto (s : _root_.Go.ChangeSpec) : _root_.Go.OpenSpec := { _root_.Go.OpenSpec.ofChange s with cond := some uptoSmall }

/-- 'newsreellaw8.HlcPlays', WHERE WHAT IT READS IS OF BULK AT MOST 1048576: true; the input reads as it did. -/
def hlcPlaysUptoRow : OpenClaim := { program := "ytecijlgkadlmnaa", sum := "3ce3efe349504c7838d5bb0ebe423fe33019ab22148960957cedafb895a0b017", func := "newsreel/newsreellaw8.HlcPlays", spec := "hlcPlays", apart := false, narrowed := true }
def HlcPlaysUptoSaid : Prop := hlcPlaysUptoRow.holds Try.pinned (OpenSpec.upto hlcPlaysSpec)

/-- 'newsreellaw8.HlcRises', WHERE WHAT IT READS IS OF BULK AT MOST 1048576: true; the input reads as it did. -/
def hlcRisesUptoRow : OpenClaim := { program := "ytecijlgkadlmnaa", sum := "3ce3efe349504c7838d5bb0ebe423fe33019ab22148960957cedafb895a0b017", func := "newsreel/newsreellaw8.HlcRises", spec := "hlcRises", apart := false, narrowed := true }
def HlcRisesUptoSaid : Prop := hlcRisesUptoRow.holds Try.pinned (OpenSpec.upto hlcRisesSpec)

/-- 'newsreellaw8.HlcDrift', WHERE WHAT IT READS IS OF BULK AT MOST 1048576: true; the input reads as it did. -/
def hlcDriftUptoRow : OpenClaim := { program := "ytecijlgkadlmnaa", sum := "3ce3efe349504c7838d5bb0ebe423fe33019ab22148960957cedafb895a0b017", func := "newsreel/newsreellaw8.HlcDrift", spec := "hlcDrift", apart := false, narrowed := true }
def HlcDriftUptoSaid : Prop := hlcDriftUptoRow.holds Try.pinned (OpenSpec.upto hlcDriftSpec)

/-- 'newsreellaw8.HlcEnd', WHERE WHAT IT READS IS OF BULK AT MOST 1048576: true; the input reads as it did. -/
def hlcEndUptoRow : OpenClaim := { program := "ytecijlgkadlmnaa", sum := "3ce3efe349504c7838d5bb0ebe423fe33019ab22148960957cedafb895a0b017", func := "newsreel/newsreellaw8.HlcEnd", spec := "hlcEnd", apart := false, narrowed := true }
def HlcEndUptoSaid : Prop := hlcEndUptoRow.holds Try.pinned (OpenSpec.upto hlcEndSpec)

/-- 'newsreellaw8.HlcPeek', WHERE WHAT IT READS IS OF BULK AT MOST 1048576: true; the input reads as it did. -/
def hlcPeekUptoRow : OpenClaim := { program := "ytecijlgkadlmnaa", sum := "3ce3efe349504c7838d5bb0ebe423fe33019ab22148960957cedafb895a0b017", func := "newsreel/newsreellaw8.HlcPeek", spec := "hlcPeek", apart := false, narrowed := true }
def HlcPeekUptoSaid : Prop := hlcPeekUptoRow.holds Try.pinned (OpenSpec.upto hlcPeekSpec)

end Rows
end Go.Proofs.Ytecijlgkadlmnaa

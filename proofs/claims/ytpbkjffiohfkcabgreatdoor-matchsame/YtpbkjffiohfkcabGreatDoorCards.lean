/-
  DERIVED. GIVEN WITH THE SEED: THE CARDS: each row of YtpbkjffiohfkcabGreatDoorRows.lean that lists a variable, with what it lists TIED to the program's text (the seventh form; the later family's looks); each row that meets fmt, with fmt's text TOLD by the authors' own Lean function (tested against real Go, not proved from fmt's source: count such statements apart). THE CARD IS WHAT COUNTS. Prove the row's statement (the work); the ties are given (YtpbkjffiohfkcabGreatDoorTie.lean); close each card by the builder's one call (the guide's Derived/Test/ToyasCard.lean, 'card_holds'). Laid BY PROGRAM, IN A SANDBOX (cutbox-door.mjs). By AI agents, Wed Nov 11 2026. No macro, syntax, notation, axiom, sorry.
-/
import Derived.Test.YtpbkjffiohfkcabGreatDoorRows
import GoSem.ClaimSeven
namespace Go.Proofs.YtpbkjffiohfkcabGreatDoor
namespace Rows

/-- THE TIED CARD OF 'tidelinelaw13.MatchSame'. -/
def matchSameCard : Claim7 := { stood := { row := matchSameRow, standIns := [], harness := (true, "03fa69ab31efaee5d0742f6c7457b16258f6c3f1364877b05b246d3b54c3e3b0"), looks := false }, kinds := [], alts := [], laidByText := true, laidKinds := [.data], laidTests := true, laidLooks := .later }
def MatchSameCardSaid : Prop := Claim7.holds Tryz.pinned (.plain (OpenSpec.ofChange matchSameSpec)) matchSameCard

/-- THE SECOND FORM's CARD OF 'tidelinelaw13.MatchSame'. -/
def matchSameUptoCard : Claim7 := { stood := { row := matchSameUptoRow, standIns := [], harness := (true, "03fa69ab31efaee5d0742f6c7457b16258f6c3f1364877b05b246d3b54c3e3b0"), looks := false }, kinds := [], alts := [], laidByText := true, laidKinds := [.data], laidTests := true, laidLooks := .later }
def MatchSameUptoCardSaid : Prop := Claim7.holds Tryz.pinned (.plain (OpenSpec.upto matchSameSpec)) matchSameUptoCard
end Rows
end Go.Proofs.YtpbkjffiohfkcabGreatDoor

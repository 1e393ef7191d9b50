/-
  DERIVED. GIVEN WITH THE SEED: THE CARDS: each row of YtpbkjffiohfkcaaDoorRows.lean that lists a variable, with what it lists TIED to the program's text (the seventh form; the later family's looks); each row that meets fmt, with fmt's text TOLD by the authors' own Lean function (tested against real Go, not proved from fmt's source: count such statements apart). THE CARD IS WHAT COUNTS. Prove the row's statement (the work); the ties are given (YtpbkjffiohfkcaaDoorTie.lean); close each card by the builder's one call (the guide's Derived/Test/ToyasCard.lean, 'card_holds'). Laid BY PROGRAM, IN A SANDBOX (cutbox-door.mjs). By AI agents, Wed Nov 11 2026. No macro, syntax, notation, axiom, sorry.
-/
import Derived.Test.YtpbkjffiohfkcaaDoorRows
import GoSem.ClaimSeven
namespace Go.Proofs.YtpbkjffiohfkcaaDoor
namespace Rows

/-- THE TIED CARD OF 'tidelinelaw13.MatchPrint'. -/
def matchPrintCard : Claim7 := { stood := { row := matchPrintRow, standIns := [], harness := (true, "0f62b422eae1fd32c52f8ee4f92296667e3968da8bdb160f89c40e2d8f6a75b5"), looks := false }, kinds := [], alts := [], laidByText := true, laidKinds := [.data], laidTests := true, laidLooks := .later }
def MatchPrintCardSaid : Prop := Claim7.holds Tryd.pinned (.plain (OpenSpec.ofChange matchPrintSpec)) matchPrintCard

/-- THE SECOND FORM's CARD OF 'tidelinelaw13.MatchPrint'. -/
def matchPrintUptoCard : Claim7 := { stood := { row := matchPrintUptoRow, standIns := [], harness := (true, "0f62b422eae1fd32c52f8ee4f92296667e3968da8bdb160f89c40e2d8f6a75b5"), looks := false }, kinds := [], alts := [], laidByText := true, laidKinds := [.data], laidTests := true, laidLooks := .later }
def MatchPrintUptoCardSaid : Prop := Claim7.holds Tryd.pinned (.plain (OpenSpec.upto matchPrintSpec)) matchPrintUptoCard
end Rows
end Go.Proofs.YtpbkjffiohfkcaaDoor

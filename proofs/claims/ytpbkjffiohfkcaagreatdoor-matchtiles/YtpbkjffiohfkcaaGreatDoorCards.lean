/-
  DERIVED. GIVEN WITH THE SEED: THE CARDS: each row of YtpbkjffiohfkcaaGreatDoorRows.lean that lists a variable, with what it lists TIED to the program's text (the seventh form; the later family's looks); each row that meets fmt, with fmt's text TOLD by the authors' own Lean function (tested against real Go, not proved from fmt's source: count such statements apart). THE CARD IS WHAT COUNTS. Prove the row's statement (the work); the ties are given (YtpbkjffiohfkcaaGreatDoorTie.lean); close each card by the builder's one call (the guide's Derived/Test/ToyasCard.lean, 'card_holds'). Laid BY PROGRAM, IN A SANDBOX (cutbox-door.mjs). By AI agents, Wed Nov 11 2026. No macro, syntax, notation, axiom, sorry.
-/
import Derived.Test.YtpbkjffiohfkcaaGreatDoorRows
import GoSem.ClaimSeven
namespace Go.Proofs.YtpbkjffiohfkcaaGreatDoor
namespace Rows

/-- THE TIED CARD OF 'tidelinelaw13.MatchParts'. -/
def matchPartsCard : Claim7 := { stood := { row := matchPartsRow, standIns := [], harness := (true, "73eb7092c06d294691740bd90f622533a57644e569d655780e618aa374c9114c"), looks := false }, kinds := [], alts := [], laidByText := true, laidKinds := [.data], laidTests := true, laidLooks := .later }
def MatchPartsCardSaid : Prop := Claim7.holds Tryz.pinned (.plain (OpenSpec.ofChange matchPartsSpec)) matchPartsCard

/-- THE TIED CARD OF 'tidelinelaw13.MatchOnce'. -/
def matchOnceCard : Claim7 := { stood := { row := matchOnceRow, standIns := [], harness := (true, "73eb7092c06d294691740bd90f622533a57644e569d655780e618aa374c9114c"), looks := false }, kinds := [], alts := [], laidByText := true, laidKinds := [.data], laidTests := true, laidLooks := .later }
def MatchOnceCardSaid : Prop := Claim7.holds Tryz.pinned (.plain (OpenSpec.ofChange matchOnceSpec)) matchOnceCard

/-- THE TIED CARD OF 'tidelinelaw13.MatchAnswers'. -/
def matchAnswersCard : Claim7 := { stood := { row := matchAnswersRow, standIns := [], harness := (true, "73eb7092c06d294691740bd90f622533a57644e569d655780e618aa374c9114c"), looks := false }, kinds := [], alts := [], laidByText := true, laidKinds := [.data], laidTests := true, laidLooks := .later }
def MatchAnswersCardSaid : Prop := Claim7.holds Tryz.pinned (.plain (OpenSpec.ofChange matchAnswersSpec)) matchAnswersCard

/-- THE TIED CARD OF 'tidelinelaw13.MatchOne'. -/
def matchOneCard : Claim7 := { stood := { row := matchOneRow, standIns := [], harness := (true, "73eb7092c06d294691740bd90f622533a57644e569d655780e618aa374c9114c"), looks := false }, kinds := [], alts := [], laidByText := true, laidKinds := [.data], laidTests := true, laidLooks := .later }
def MatchOneCardSaid : Prop := Claim7.holds Tryz.pinned (.plain (OpenSpec.ofChange matchOneSpec)) matchOneCard

/-- THE TIED CARD OF 'tidelinelaw13.MatchTiles'. -/
def matchTilesCard : Claim7 := { stood := { row := matchTilesRow, standIns := [], harness := (true, "73eb7092c06d294691740bd90f622533a57644e569d655780e618aa374c9114c"), looks := false }, kinds := [], alts := [], laidByText := true, laidKinds := [.data], laidTests := true, laidLooks := .later }
def MatchTilesCardSaid : Prop := Claim7.holds Tryz.pinned (.plain (OpenSpec.ofChange matchTilesSpec)) matchTilesCard

/-- THE SECOND FORM's CARD OF 'tidelinelaw13.MatchParts'. -/
def matchPartsUptoCard : Claim7 := { stood := { row := matchPartsUptoRow, standIns := [], harness := (true, "73eb7092c06d294691740bd90f622533a57644e569d655780e618aa374c9114c"), looks := false }, kinds := [], alts := [], laidByText := true, laidKinds := [.data], laidTests := true, laidLooks := .later }
def MatchPartsUptoCardSaid : Prop := Claim7.holds Tryz.pinned (.plain (OpenSpec.upto matchPartsSpec)) matchPartsUptoCard

/-- THE SECOND FORM's CARD OF 'tidelinelaw13.MatchOnce'. -/
def matchOnceUptoCard : Claim7 := { stood := { row := matchOnceUptoRow, standIns := [], harness := (true, "73eb7092c06d294691740bd90f622533a57644e569d655780e618aa374c9114c"), looks := false }, kinds := [], alts := [], laidByText := true, laidKinds := [.data], laidTests := true, laidLooks := .later }
def MatchOnceUptoCardSaid : Prop := Claim7.holds Tryz.pinned (.plain (OpenSpec.upto matchOnceSpec)) matchOnceUptoCard

/-- THE SECOND FORM's CARD OF 'tidelinelaw13.MatchAnswers'. -/
def matchAnswersUptoCard : Claim7 := { stood := { row := matchAnswersUptoRow, standIns := [], harness := (true, "73eb7092c06d294691740bd90f622533a57644e569d655780e618aa374c9114c"), looks := false }, kinds := [], alts := [], laidByText := true, laidKinds := [.data], laidTests := true, laidLooks := .later }
def MatchAnswersUptoCardSaid : Prop := Claim7.holds Tryz.pinned (.plain (OpenSpec.upto matchAnswersSpec)) matchAnswersUptoCard

/-- THE SECOND FORM's CARD OF 'tidelinelaw13.MatchOne'. -/
def matchOneUptoCard : Claim7 := { stood := { row := matchOneUptoRow, standIns := [], harness := (true, "73eb7092c06d294691740bd90f622533a57644e569d655780e618aa374c9114c"), looks := false }, kinds := [], alts := [], laidByText := true, laidKinds := [.data], laidTests := true, laidLooks := .later }
def MatchOneUptoCardSaid : Prop := Claim7.holds Tryz.pinned (.plain (OpenSpec.upto matchOneSpec)) matchOneUptoCard

/-- THE SECOND FORM's CARD OF 'tidelinelaw13.MatchTiles'. -/
def matchTilesUptoCard : Claim7 := { stood := { row := matchTilesUptoRow, standIns := [], harness := (true, "73eb7092c06d294691740bd90f622533a57644e569d655780e618aa374c9114c"), looks := false }, kinds := [], alts := [], laidByText := true, laidKinds := [.data], laidTests := true, laidLooks := .later }
def MatchTilesUptoCardSaid : Prop := Claim7.holds Tryz.pinned (.plain (OpenSpec.upto matchTilesSpec)) matchTilesUptoCard
end Rows
end Go.Proofs.YtpbkjffiohfkcaaGreatDoor

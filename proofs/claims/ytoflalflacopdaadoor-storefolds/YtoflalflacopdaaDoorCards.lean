/-
  DERIVED. GIVEN WITH THE SEED: THE CARDS: each row of YtoflalflacopdaaDoorRows.lean that lists a variable, with what it lists TIED to the program's text (the seventh form; the later family's looks); each row that meets fmt, with fmt's text TOLD by the authors' own Lean function (tested against real Go, not proved from fmt's source: count such statements apart). THE CARD IS WHAT COUNTS. Prove the row's statement (the work); the ties are given (YtoflalflacopdaaDoorTie.lean); close each card by the builder's one call (the guide's Derived/Test/ToyasCard.lean, 'card_holds'). Laid BY PROGRAM, IN A SANDBOX (cutbox-door.mjs). By AI agents, Wed Nov 11 2026. No macro, syntax, notation, axiom, sorry.
-/
import Derived.Test.YtoflalflacopdaaDoorRows
import GoSem.ClaimSeven
namespace Go.Proofs.YtoflalflacopdaaDoor
namespace Rows

/-- THE TIED CARD OF 'tidelinelaw08.StoreFolds'. -/
def storeFoldsCard : Claim7 := { stood := { row := storeFoldsRow, standIns := [], harness := (true, "a500baf41f5a7e2dd64f4fde7ed7217ca9bb1084cf9cb9102d25c0d8d00aa480"), looks := false }, kinds := [], alts := [], laidByText := true, laidKinds := [.data], laidTests := true, laidLooks := .later }
def StoreFoldsCardSaid : Prop := Claim7.holds Tryd.pinned (.plain (OpenSpec.ofChange storeFoldsSpec)) storeFoldsCard

/-- THE TIED CARD OF 'tidelinelaw13.MatchMeets'. -/
def matchMeetsCard : Claim7 := { stood := { row := matchMeetsRow, standIns := [], harness := (true, "a500baf41f5a7e2dd64f4fde7ed7217ca9bb1084cf9cb9102d25c0d8d00aa480"), looks := false }, kinds := [], alts := [], laidByText := true, laidKinds := [.data], laidTests := true, laidLooks := .later }
def MatchMeetsCardSaid : Prop := Claim7.holds Tryd.pinned (.plain (OpenSpec.ofChange matchMeetsSpec)) matchMeetsCard

/-- THE SECOND FORM's CARD OF 'tidelinelaw08.StoreFolds'. -/
def storeFoldsUptoCard : Claim7 := { stood := { row := storeFoldsUptoRow, standIns := [], harness := (true, "a500baf41f5a7e2dd64f4fde7ed7217ca9bb1084cf9cb9102d25c0d8d00aa480"), looks := false }, kinds := [], alts := [], laidByText := true, laidKinds := [.data], laidTests := true, laidLooks := .later }
def StoreFoldsUptoCardSaid : Prop := Claim7.holds Tryd.pinned (.plain (OpenSpec.upto storeFoldsSpec)) storeFoldsUptoCard

/-- THE SECOND FORM's CARD OF 'tidelinelaw13.MatchMeets'. -/
def matchMeetsUptoCard : Claim7 := { stood := { row := matchMeetsUptoRow, standIns := [], harness := (true, "a500baf41f5a7e2dd64f4fde7ed7217ca9bb1084cf9cb9102d25c0d8d00aa480"), looks := false }, kinds := [], alts := [], laidByText := true, laidKinds := [.data], laidTests := true, laidLooks := .later }
def MatchMeetsUptoCardSaid : Prop := Claim7.holds Tryd.pinned (.plain (OpenSpec.upto matchMeetsSpec)) matchMeetsUptoCard
end Rows
end Go.Proofs.YtoflalflacopdaaDoor

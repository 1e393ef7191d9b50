/-
  DERIVED. GIVEN WITH THE SEED: THE CARDS: each row of YtlbkcndmljlnmaaDoorRows.lean that lists a variable, with what it lists TIED to the program's text (the seventh form; the later family's looks); each row that meets fmt, with fmt's text TOLD by the authors' own Lean function (tested against real Go, not proved from fmt's source: count such statements apart). THE CARD IS WHAT COUNTS. Prove the row's statement (the work); the ties are given (YtlbkcndmljlnmaaDoorTie.lean); close each card by the builder's one call (the guide's Derived/Test/ToyasCard.lean, 'card_holds'). Laid BY PROGRAM, IN A SANDBOX (cutbox-door.mjs). By AI agents, Wed Nov 11 2026. No macro, syntax, notation, axiom, sorry.
-/
import Derived.Test.YtlbkcndmljlnmaaDoorRows
import GoSem.ClaimSeven
namespace Go.Proofs.YtlbkcndmljlnmaaDoor
namespace Rows

/-- THE TIED CARD OF 'tidelinelaw10.ImagePuts'. -/
def imagePutsCard : Claim7 := { stood := { row := imagePutsRow, standIns := [], harness := (true, "f7fdc5c8b1979fa6738bbc19cf6934eff99b166ab30882ffe368a56fc6116d75"), looks := true }, kinds := [], alts := [], laidByText := true, laidKinds := [.data], laidTests := true, laidLooks := .later }
def ImagePutsCardSaid : Prop := Claim7.holds Tryd.pinned (.plain (OpenSpec.ofChange imagePutsSpec)) imagePutsCard

/-- THE TIED CARD OF 'tidelinelaw10.ImageLoads'. -/
def imageLoadsCard : Claim7 := { stood := { row := imageLoadsRow, standIns := [], harness := (true, "f7fdc5c8b1979fa6738bbc19cf6934eff99b166ab30882ffe368a56fc6116d75"), looks := true }, kinds := [], alts := [], laidByText := true, laidKinds := [.data], laidTests := true, laidLooks := .later }
def ImageLoadsCardSaid : Prop := Claim7.holds Tryd.pinned (.plain (OpenSpec.ofChange imageLoadsSpec)) imageLoadsCard

/-- THE TIED CARD OF 'tidelinelaw10.ImageOnce'. -/
def imageOnceCard : Claim7 := { stood := { row := imageOnceRow, standIns := [], harness := (true, "f7fdc5c8b1979fa6738bbc19cf6934eff99b166ab30882ffe368a56fc6116d75"), looks := true }, kinds := [], alts := [], laidByText := true, laidKinds := [.data], laidTests := true, laidLooks := .later }
def ImageOnceCardSaid : Prop := Claim7.holds Tryd.pinned (.plain (OpenSpec.ofChange imageOnceSpec)) imageOnceCard

/-- THE TIED CARD OF 'tidelinelaw10.ImageGoesOn'. -/
def imageGoesOnCard : Claim7 := { stood := { row := imageGoesOnRow, standIns := [], harness := (true, "f7fdc5c8b1979fa6738bbc19cf6934eff99b166ab30882ffe368a56fc6116d75"), looks := true }, kinds := [], alts := [], laidByText := true, laidKinds := [.data], laidTests := true, laidLooks := .later }
def ImageGoesOnCardSaid : Prop := Claim7.holds Tryd.pinned (.plain (OpenSpec.ofChange imageGoesOnSpec)) imageGoesOnCard

/-- THE TIED CARD OF 'tidelinelaw10.ImageTurned'. -/
def imageTurnedCard : Claim7 := { stood := { row := imageTurnedRow, standIns := [], harness := (true, "f7fdc5c8b1979fa6738bbc19cf6934eff99b166ab30882ffe368a56fc6116d75"), looks := true }, kinds := [], alts := [], laidByText := true, laidKinds := [.data], laidTests := true, laidLooks := .later }
def ImageTurnedCardSaid : Prop := Claim7.holds Tryd.pinned (.plain (OpenSpec.ofChange imageTurnedSpec)) imageTurnedCard

/-- THE SECOND FORM's CARD OF 'tidelinelaw10.ImagePuts'. -/
def imagePutsUptoCard : Claim7 := { stood := { row := imagePutsUptoRow, standIns := [], harness := (true, "f7fdc5c8b1979fa6738bbc19cf6934eff99b166ab30882ffe368a56fc6116d75"), looks := true }, kinds := [], alts := [], laidByText := true, laidKinds := [.data], laidTests := true, laidLooks := .later }
def ImagePutsUptoCardSaid : Prop := Claim7.holds Tryd.pinned (.plain (OpenSpec.upto imagePutsSpec)) imagePutsUptoCard

/-- THE SECOND FORM's CARD OF 'tidelinelaw10.ImageLoads'. -/
def imageLoadsUptoCard : Claim7 := { stood := { row := imageLoadsUptoRow, standIns := [], harness := (true, "f7fdc5c8b1979fa6738bbc19cf6934eff99b166ab30882ffe368a56fc6116d75"), looks := true }, kinds := [], alts := [], laidByText := true, laidKinds := [.data], laidTests := true, laidLooks := .later }
def ImageLoadsUptoCardSaid : Prop := Claim7.holds Tryd.pinned (.plain (OpenSpec.upto imageLoadsSpec)) imageLoadsUptoCard

/-- THE SECOND FORM's CARD OF 'tidelinelaw10.ImageOnce'. -/
def imageOnceUptoCard : Claim7 := { stood := { row := imageOnceUptoRow, standIns := [], harness := (true, "f7fdc5c8b1979fa6738bbc19cf6934eff99b166ab30882ffe368a56fc6116d75"), looks := true }, kinds := [], alts := [], laidByText := true, laidKinds := [.data], laidTests := true, laidLooks := .later }
def ImageOnceUptoCardSaid : Prop := Claim7.holds Tryd.pinned (.plain (OpenSpec.upto imageOnceSpec)) imageOnceUptoCard

/-- THE SECOND FORM's CARD OF 'tidelinelaw10.ImageGoesOn'. -/
def imageGoesOnUptoCard : Claim7 := { stood := { row := imageGoesOnUptoRow, standIns := [], harness := (true, "f7fdc5c8b1979fa6738bbc19cf6934eff99b166ab30882ffe368a56fc6116d75"), looks := true }, kinds := [], alts := [], laidByText := true, laidKinds := [.data], laidTests := true, laidLooks := .later }
def ImageGoesOnUptoCardSaid : Prop := Claim7.holds Tryd.pinned (.plain (OpenSpec.upto imageGoesOnSpec)) imageGoesOnUptoCard

/-- THE SECOND FORM's CARD OF 'tidelinelaw10.ImageTurned'. -/
def imageTurnedUptoCard : Claim7 := { stood := { row := imageTurnedUptoRow, standIns := [], harness := (true, "f7fdc5c8b1979fa6738bbc19cf6934eff99b166ab30882ffe368a56fc6116d75"), looks := true }, kinds := [], alts := [], laidByText := true, laidKinds := [.data], laidTests := true, laidLooks := .later }
def ImageTurnedUptoCardSaid : Prop := Claim7.holds Tryd.pinned (.plain (OpenSpec.upto imageTurnedSpec)) imageTurnedUptoCard
end Rows
end Go.Proofs.YtlbkcndmljlnmaaDoor

/-
  DERIVED. GIVEN WITH THE SEED: THE CARDS: each row of YtlgcdcjhflihiaaDoorRows.lean that lists a variable, with what it lists TIED to the program's text (the seventh form; the later family's looks); each row that meets fmt, with fmt's text TOLD by the authors' own Lean function (tested against real Go, not proved from fmt's source: count such statements apart). THE CARD IS WHAT COUNTS. Prove the row's statement (the work); the ties are given (YtlgcdcjhflihiaaDoorTie.lean); close each card by the builder's one call (the guide's Derived/Test/ToyasCard.lean, 'card_holds'). Laid BY PROGRAM, IN A SANDBOX (cutbox-door.mjs). By AI agents, Wed Nov 11 2026. No macro, syntax, notation, axiom, sorry.
-/
import Derived.Test.YtlgcdcjhflihiaaDoorRows
import GoSem.ClaimSeven
namespace Go.Proofs.YtlgcdcjhflihiaaDoor
namespace Rows

/-- THE TIED CARD OF 'tidelinelaw08.StoreNew'. -/
def storeNewCard : Claim7 := { stood := { row := storeNewRow, standIns := [], harness := (true, "b4243db839c2a1033db87f32079022639d794f1628487996a0f756257ec74c79"), looks := false }, kinds := [], alts := [], laidByText := true, laidKinds := [.data], laidTests := true, laidLooks := .later }
def StoreNewCardSaid : Prop := Claim7.holds Tryd.pinned (.plain (OpenSpec.ofChange storeNewSpec)) storeNewCard

/-- THE TIED CARD OF 'tidelinelaw08.StoreUp'. -/
def storeUpCard : Claim7 := { stood := { row := storeUpRow, standIns := [], harness := (true, "b4243db839c2a1033db87f32079022639d794f1628487996a0f756257ec74c79"), looks := false }, kinds := [], alts := [], laidByText := true, laidKinds := [.data], laidTests := true, laidLooks := .later }
def StoreUpCardSaid : Prop := Claim7.holds Tryd.pinned (.plain (OpenSpec.ofChange storeUpSpec)) storeUpCard

/-- THE TIED CARD OF 'tidelinelaw08.StoreFills'. -/
def storeFillsCard : Claim7 := { stood := { row := storeFillsRow, standIns := [], harness := (true, "b4243db839c2a1033db87f32079022639d794f1628487996a0f756257ec74c79"), looks := false }, kinds := [], alts := [], laidByText := true, laidKinds := [.data], laidTests := true, laidLooks := .later }
def StoreFillsCardSaid : Prop := Claim7.holds Tryd.pinned (.plain (OpenSpec.ofChange storeFillsSpec)) storeFillsCard

/-- THE TIED CARD OF 'tidelinelaw08.StoreTurned'. -/
def storeTurnedCard : Claim7 := { stood := { row := storeTurnedRow, standIns := [], harness := (true, "b4243db839c2a1033db87f32079022639d794f1628487996a0f756257ec74c79"), looks := false }, kinds := [], alts := [], laidByText := true, laidKinds := [.data], laidTests := true, laidLooks := .later }
def StoreTurnedCardSaid : Prop := Claim7.holds Tryd.pinned (.plain (OpenSpec.ofChange storeTurnedSpec)) storeTurnedCard

/-- THE TIED CARD OF 'tidelinelaw08.StoreFolds'. -/
def storeFoldsCard : Claim7 := { stood := { row := storeFoldsRow, standIns := [], harness := (true, "b4243db839c2a1033db87f32079022639d794f1628487996a0f756257ec74c79"), looks := false }, kinds := [], alts := [], laidByText := true, laidKinds := [.data], laidTests := true, laidLooks := .later }
def StoreFoldsCardSaid : Prop := Claim7.holds Tryd.pinned (.plain (OpenSpec.ofChange storeFoldsSpec)) storeFoldsCard

/-- THE SECOND FORM's CARD OF 'tidelinelaw08.StoreNew'. -/
def storeNewUptoCard : Claim7 := { stood := { row := storeNewUptoRow, standIns := [], harness := (true, "b4243db839c2a1033db87f32079022639d794f1628487996a0f756257ec74c79"), looks := false }, kinds := [], alts := [], laidByText := true, laidKinds := [.data], laidTests := true, laidLooks := .later }
def StoreNewUptoCardSaid : Prop := Claim7.holds Tryd.pinned (.plain (OpenSpec.upto storeNewSpec)) storeNewUptoCard

/-- THE SECOND FORM's CARD OF 'tidelinelaw08.StoreUp'. -/
def storeUpUptoCard : Claim7 := { stood := { row := storeUpUptoRow, standIns := [], harness := (true, "b4243db839c2a1033db87f32079022639d794f1628487996a0f756257ec74c79"), looks := false }, kinds := [], alts := [], laidByText := true, laidKinds := [.data], laidTests := true, laidLooks := .later }
def StoreUpUptoCardSaid : Prop := Claim7.holds Tryd.pinned (.plain (OpenSpec.upto storeUpSpec)) storeUpUptoCard

/-- THE SECOND FORM's CARD OF 'tidelinelaw08.StoreFills'. -/
def storeFillsUptoCard : Claim7 := { stood := { row := storeFillsUptoRow, standIns := [], harness := (true, "b4243db839c2a1033db87f32079022639d794f1628487996a0f756257ec74c79"), looks := false }, kinds := [], alts := [], laidByText := true, laidKinds := [.data], laidTests := true, laidLooks := .later }
def StoreFillsUptoCardSaid : Prop := Claim7.holds Tryd.pinned (.plain (OpenSpec.upto storeFillsSpec)) storeFillsUptoCard

/-- THE SECOND FORM's CARD OF 'tidelinelaw08.StoreTurned'. -/
def storeTurnedUptoCard : Claim7 := { stood := { row := storeTurnedUptoRow, standIns := [], harness := (true, "b4243db839c2a1033db87f32079022639d794f1628487996a0f756257ec74c79"), looks := false }, kinds := [], alts := [], laidByText := true, laidKinds := [.data], laidTests := true, laidLooks := .later }
def StoreTurnedUptoCardSaid : Prop := Claim7.holds Tryd.pinned (.plain (OpenSpec.upto storeTurnedSpec)) storeTurnedUptoCard

/-- THE SECOND FORM's CARD OF 'tidelinelaw08.StoreFolds'. -/
def storeFoldsUptoCard : Claim7 := { stood := { row := storeFoldsUptoRow, standIns := [], harness := (true, "b4243db839c2a1033db87f32079022639d794f1628487996a0f756257ec74c79"), looks := false }, kinds := [], alts := [], laidByText := true, laidKinds := [.data], laidTests := true, laidLooks := .later }
def StoreFoldsUptoCardSaid : Prop := Claim7.holds Tryd.pinned (.plain (OpenSpec.upto storeFoldsSpec)) storeFoldsUptoCard
end Rows
end Go.Proofs.YtlgcdcjhflihiaaDoor

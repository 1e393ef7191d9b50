/-
  Ranges that came in, at a door.
-/
import Derived.Test.YtlbkcndmljlnmaaDoorBk30
namespace Go.Proofs.YtlbkcndmljlnmaaDoor
open Go.ChangeShapes Go.WideShapes Go.ChangeAt Go.RowKit
set_option linter.unusedVariables false
variable {H : Type} {enc : TypeId × Value → H} {W : World}
set_option linter.unusedVariables false
end Go.Proofs.YtlbkcndmljlnmaaDoor

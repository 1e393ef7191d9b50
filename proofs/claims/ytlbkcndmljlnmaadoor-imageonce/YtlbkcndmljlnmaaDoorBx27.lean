/-
  The document's Load of an image.
-/
import Derived.Test.YtlbkcndmljlnmaaDoorBx25
namespace Go.Proofs.YtlbkcndmljlnmaaDoor
open Go.RowKit
set_option linter.unusedVariables false
end Go.Proofs.YtlbkcndmljlnmaaDoor

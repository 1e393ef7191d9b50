/-
  The document's Put of an image.
-/
import Derived.Test.YtlbkcndmljlnmaaDoorBx23
import Derived.Test.YtlbkcndmljlnmaaDoorBx29
namespace Go.Proofs.YtlbkcndmljlnmaaDoor
open Go.RowKit
set_option linter.unusedVariables false
end Go.Proofs.YtlbkcndmljlnmaaDoor

/-
  The document's Put of an image.
-/
import Derived.Test.YtlbkcndmljlnmaaDoorBq25
import Derived.Test.YtlbkcndmljlnmaaDoorBq32
namespace Go.Proofs.YtlbkcndmljlnmaaDoor
open Go.RowKit
set_option linter.unusedVariables false
end Go.Proofs.YtlbkcndmljlnmaaDoor

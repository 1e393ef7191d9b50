/-
  The document's Put of an image.
-/
import Derived.Test.YtlbkcndmljlnmaaDoorBl25
import Derived.Test.YtlbkcndmljlnmaaDoorBl32
namespace Go.Proofs.YtlbkcndmljlnmaaDoor
open Go.RowKit
set_option linter.unusedVariables false
end Go.Proofs.YtlbkcndmljlnmaaDoor

/-
  The document's Load, with its error.
-/
import Derived.Test.YtlbkcndmljlnmaaDoorBx31
namespace Go.Proofs.YtlbkcndmljlnmaaDoor
open Go.RowKit
set_option linter.unusedVariables false
end Go.Proofs.YtlbkcndmljlnmaaDoor

/-
  Load of the code, with its error.
-/
import Derived.Test.YtlbkcndmljlnmaaDoorBq34
namespace Go.Proofs.YtlbkcndmljlnmaaDoor
open Go.RowKit
set_option linter.unusedVariables false
end Go.Proofs.YtlbkcndmljlnmaaDoor

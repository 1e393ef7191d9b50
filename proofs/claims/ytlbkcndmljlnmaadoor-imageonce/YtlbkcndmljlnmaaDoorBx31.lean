/-
  What Load refuses with: the first entry that is wrong, plain.
-/
import Derived.Test.YtlbkcndmljlnmaaDoorBx24
namespace Go.Proofs.YtlbkcndmljlnmaaDoor
open Go.RowKit
set_option linter.unusedVariables false
end Go.Proofs.YtlbkcndmljlnmaaDoor

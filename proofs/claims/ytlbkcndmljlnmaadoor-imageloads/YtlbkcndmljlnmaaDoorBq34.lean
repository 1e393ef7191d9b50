/-
  What Load refuses with: the first entry that is wrong, plain.
-/
import Derived.Test.YtlbkcndmljlnmaaDoorBq27
namespace Go.Proofs.YtlbkcndmljlnmaaDoor
open Go.RowKit
set_option linter.unusedVariables false
end Go.Proofs.YtlbkcndmljlnmaaDoor

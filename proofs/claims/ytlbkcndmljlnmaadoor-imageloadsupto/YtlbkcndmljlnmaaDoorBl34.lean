/-
  What Load refuses with: the first entry that is wrong, plain.
  Load of the code, with its error.
  The document's Load, with its error.
-/
import Derived.Test.YtlbkcndmljlnmaaDoorBl27
namespace Go.Proofs.YtlbkcndmljlnmaaDoor
open Go.RowKit
set_option linter.unusedVariables false
end Go.Proofs.YtlbkcndmljlnmaaDoor
namespace Go.Proofs.YtlbkcndmljlnmaaDoor
open Go.RowKit
set_option linter.unusedVariables false
end Go.Proofs.YtlbkcndmljlnmaaDoor
namespace Go.Proofs.YtlbkcndmljlnmaaDoor
open Go.RowKit
set_option linter.unusedVariables false
end Go.Proofs.YtlbkcndmljlnmaaDoor

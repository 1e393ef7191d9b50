/-
  Entries taken one behind the other: plain.
  Where a key stands among entries: plain.
-/
import Derived.Test.YtlbkcndmljlnmaaDoorBx18
import Derived.Test.YtlbkcndmljlnmaaDoorBx19
namespace Go.Proofs.YtlbkcndmljlnmaaDoor
open Go.RowKit
set_option linter.unusedVariables false
end Go.Proofs.YtlbkcndmljlnmaaDoor
namespace Go.Proofs.YtlbkcndmljlnmaaDoor
open Go.RowKit
set_option linter.unusedVariables false
end Go.Proofs.YtlbkcndmljlnmaaDoor

/-
  same of the images: the store holds what the document's does.
-/
import Derived.Test.YtlbkcndmljlnmaaDoorBx29
namespace Go.Proofs.YtlbkcndmljlnmaaDoor
open Go.RowKit
set_option linter.unusedVariables false
end Go.Proofs.YtlbkcndmljlnmaaDoor

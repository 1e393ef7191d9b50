/-
  The steps of a script over two stores, that came in; among; lists of bools.
-/
import Derived.Test.YtlbkcndmljlnmaaDoorBx1
import Derived.Test.YtlbkcndmljlnmaaDoorBx37
namespace Go.Proofs.YtlbkcndmljlnmaaDoor
open Go.ChangeShapes Go.WideShapes Go.ChangeAt Go.RowKit
set_option linter.unusedVariables false
variable {H : Type} {enc : TypeId × Value → H} {W : World}
section
variable {H : Type} {enc : TypeId × Value → H} {W : World}
end
end Go.Proofs.YtlbkcndmljlnmaaDoor

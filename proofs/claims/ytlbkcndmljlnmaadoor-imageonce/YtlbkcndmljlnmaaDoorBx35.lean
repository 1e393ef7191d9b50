/-
  Rows of bytes that are written into, and what stays beside.
-/
import Derived.Test.YtlbkcndmljlnmaaDoorBx28
import Derived.Test.YtlbkcndmljlnmaaDoorBx30
import Derived.Test.YtlbkcndmljlnmaaDoorBx32
import Derived.Test.YtlbkcndmljlnmaaDoorBx33
import Derived.Test.YtlbkcndmljlnmaaDoorBx34
import Derived.Test.YtlbkcndmljlnmaaDoorBx27
namespace Go.Proofs.YtlbkcndmljlnmaaDoor
open Go.RowKit
set_option linter.unusedVariables false
theorem img_pos (nd ck : Int) (es : List En) : 0 < (imgB nd ck es).length := by
  unfold imgB tideS
  rw [List.length_append, List.length_append]
  have := (Nm.enc_length 8 (up nd)).1
  omega
end Go.Proofs.YtlbkcndmljlnmaaDoor

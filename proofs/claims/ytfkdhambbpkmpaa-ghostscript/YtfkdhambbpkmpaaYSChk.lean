/-
  Check, the code's and the document's own: each returns the number that the plain function gives, and writes nothing that was there.
-/
import Derived.Test.YtfkdhambbpkmpaaYSpanPlain
import Derived.Test.YtfkdhambbpkmpaaYBytes1
import Derived.WalkKit
import Derived.WalkSpells
import Derived.WalkLawsBesides
import Derived.KernelRfl
import Derived.Below
import Derived.Laws.IdiomStrings
import Derived.Test.YtfkdhambbpkmpaaYIVer
import Derived.Test.YtfkdhambbpkmpaaYMBase
import Derived.Test.YtfkdhambbpkmpaaYTrBase
namespace Go.Proofs.Ytfkdhambbpkmpaa
open Go.RowKit
theorem chk_shut {lo hi : ByteArray} (h1 : (lo.size : Int) ≤ 16) (h2 : (hi.size : Int) ≤ 16) :
    Rg.chk ⟨lo, hi, false⟩ = bif (!Op.bytesLess lo.toList hi.toList && !(lo.toList == hi.toList)) then 21 else 0 := by
  unfold Rg.chk; rw [if_neg (not_or.2 ⟨Int.not_lt.2 h1, Int.not_lt.2 h2⟩)]
  cases Op.bytesLess lo.toList hi.toList <;> cases (lo.toList == hi.toList) <;> rfl

theorem chk_open {lo hi : ByteArray} (h1 : (lo.size : Int) ≤ 16) (h2 : (hi.size : Int) ≤ 16) :
    Rg.chk ⟨lo, hi, true⟩ = bif hi.toList.isEmpty then 0 else 21 := by
  unfold Rg.chk; rw [if_neg (not_or.2 ⟨Int.not_lt.2 h1, Int.not_lt.2 h2⟩)]
  cases hi.toList.isEmpty <;> rfl




end Go.Proofs.Ytfkdhambbpkmpaa

/-
  Plain mathematics of ranges of keys: which may be, which are empty, which keys they hold.
-/
import Derived.Test.YtfkdhambbpkmpaaProg
import Derived.WalkKit
import Derived.Laws.Cover1
namespace Go.Proofs.Ytfkdhambbpkmpaa
open Go.RowKit
/-- A range: its bounds, and whether it is open. -/
structure Rg where
  lo : ByteArray
  hi : ByteArray
  op : Bool

namespace Rg
/-- As a value of the program. -/
def val (r : Rg) : Value := .agg #[.string r.lo, .string r.hi, .bool r.op]

/-- The number that Check gives. -/
def chk (r : Rg) : Int :=
  if 16 < (r.lo.size : Int) ∨ 16 < (r.hi.size : Int) then 20
  else if (r.op && !r.hi.toList.isEmpty) || (!r.op && (!Op.bytesLess r.lo.toList r.hi.toList && !(r.lo.toList == r.hi.toList))) then 21 else 0

/-- May it be? -/
def may (r : Rg) : Bool := chk r == 0

/-- Is it empty, or may it not be? -/
def emp (r : Rg) : Bool := !r.may || (!r.op && (r.lo.toList == r.hi.toList))

/-- Does it hold a key? -/
def has (r : Rg) (k : ByteArray) : Bool := r.may && decide ((k.size : Int) ≤ 16) && !Op.bytesLess k.toList r.lo.toList && (r.op || Op.bytesLess k.toList r.hi.toList)

/-- The higher one of two texts. -/
def mx (a b : ByteArray) : ByteArray := bif Op.bytesLess a.toList b.toList then b else a

/-- What two ranges meet in, if they were to meet. -/
def both (a b : Rg) : Rg := ⟨mx a.lo b.lo, bif a.op || (!b.op && Op.bytesLess b.hi.toList a.hi.toList) then b.hi else a.hi, bif a.op || (!b.op && Op.bytesLess b.hi.toList a.hi.toList) then b.op else a.op⟩

/-- What two ranges meet in. -/
def meet (a b : Rg) : Option Rg := if a.emp || b.emp || (both a b).emp then none else some (both a b)

/-- The two values that Meet hands back. -/
def meetV : Option Rg → Value
  | some r => .tuple #[.agg #[.string r.lo, .string r.hi, .bool r.op], .bool true]
  | none => .tuple #[.agg #[.string ⟨#[]⟩, .string ⟨#[]⟩, .bool false], .bool false]

end Rg
end Go.Proofs.Ytfkdhambbpkmpaa

/-
  A range that came in as an argument: from its reading to its fields, and back.
-/
import Derived.Test.YtidajlnaehhkkaaSParse
import Derived.ProofKit
import Derived.OpenShut
import Derived.ShutString
import Derived.HandedShaped
import Derived.Lib.SmallJoins
import Derived.Shelf.Vars
import Derived.Deep.CondSized
namespace Go.Proofs.Ytidajlnaehhkkaa
open Go.ChangeShapes Go.WideShapes Go.ChangeAt Go.RowKit
set_option linter.unusedVariables false

theorem own : ownKnob Try.prog.godebug = none := by kernel_rfl
theorem cellsRg : Try.prog.cellsOf 23 = 3 := by kernel_rfl

theorem max_of_shape {W : World} (h : W.ShapedOpen Try.prog) : MaxAt W :=
  cell_of_shapedOpen_int (zero := #[.int .i64 0]) (t := 3) h (of_decide_eq_true (by kernel_rfl)) (by kernel_rfl) rfl (by kernel_rfl) (by kernel_rfl) Try.underlying3

variable {H : Type} {enc : TypeId × Value → H} {W : World}

theorem open_rg {b0 : Nat} {sp : Nat → Bool} {held : Bool} {v : Value} {d : DataW H} {p : List MemPlace} (hv : Value.okWide Try.prog W .any b0 23 v) (h : DataW.Trod enc Try.prog W 0 sp held 23 v d p) :
    ∃ (lo hi : ByteArray) (op : Bool), v = .agg #[.string lo, .string hi, .bool op] ∧ d = .agg [.lit (.string lo.data.toList), .lit (.string hi.data.toList), .lit (.bool op)] ∧ p = [] ∧ lo.size ≤ maxLen ∧ hi.size ≤ maxLen := by
  obtain ⟨c0, c1, c2, y0, y1, y2, m, rfl, rfl, rfl, hy0, hy1, hy2⟩ := Joins.open_agg3 Try.underlying23 (by kernel_rfl) cellsRg hv h
  obtain ⟨lo, e0, rfl, w0⟩ := DataW.trod_string Try.underlying9 hy0
  obtain ⟨hi, e1, rfl, w1⟩ := DataW.trod_string Try.underlying9 hy1
  obtain ⟨op, e2, rfl⟩ := DataW.trod_bool Try.underlying4 hy2
  simp only [List.cons.injEq, and_true] at e0 e1 e2
  subst e0 e1 e2
  exact ⟨lo, hi, op, rfl, rfl, rfl, w0, w1⟩

theorem shut_rg {sp : Nat → Bool} {held : Bool} {lo hi : ByteArray} {op : Bool} (w0 : lo.size ≤ maxLen) (w1 : hi.size ≤ maxLen) :
    DataW.Trod enc Try.prog W 0 sp held 23 (.agg #[.string lo, .string hi, .bool op]) (.agg [.lit (.string lo.data.toList), .lit (.string hi.data.toList), .lit (.bool op)]) [] :=
  Joins.shut_agg3 (y0 := (.lit (.string lo.data.toList), [])) (y1 := (.lit (.string hi.data.toList), [])) (y2 := (.lit (.bool op), [])) Try.underlying23 (by kernel_rfl) cellsRg
    ⟨1, by simp [DataW.trod, Try.underlying9, w0]⟩ ⟨1, by simp [DataW.trod, Try.underlying9, w1]⟩ ⟨1, by simp [DataW.trod, Try.underlying4]⟩

end Go.Proofs.Ytidajlnaehhkkaa

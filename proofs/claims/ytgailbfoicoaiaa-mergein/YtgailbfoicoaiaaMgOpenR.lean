/-
  Ranges that came in.
-/
import Derived.Test.YtgailbfoicoaiaaMgOpen
namespace Go.Proofs.Ytgailbfoicoaiaa
open Go.ChangeShapes Go.WideShapes Go.ChangeAt Go.RowKit
set_option linter.unusedVariables false
variable {H : Type} {enc : TypeId × Value → H} {W : World}

set_option linter.unusedVariables false

theorem cellsRg : Try.prog.cellsOf 54 = 3 := by kernel_rfl

theorem open_rg {b0 : Nat} {sp : Nat → Bool} {held : Bool} {v : Value} {d : DataW H} {p : List MemPlace} (hv : Value.okWide Try.prog W .any b0 54 v) (h : DataW.Trod enc Try.prog W 0 sp held 54 v d p) :
    ∃ (lo hi : ByteArray) (op : Bool), v = .agg #[.string lo, .string hi, .bool op] ∧ d = .agg [.lit (.string lo.data.toList), .lit (.string hi.data.toList), .lit (.bool op)] ∧ p = [] ∧ lo.size ≤ maxLen ∧ hi.size ≤ maxLen := by
  obtain ⟨c0, c1, c2, y0, y1, y2, m, rfl, rfl, rfl, hy0, hy1, hy2⟩ := Joins.open_agg3 Try.underlying54 (by kernel_rfl) cellsRg hv h
  obtain ⟨lo, e0, rfl, w0⟩ := DataW.trod_string Try.underlying9 hy0
  obtain ⟨hi, e1, rfl, w1⟩ := DataW.trod_string Try.underlying9 hy1
  obtain ⟨op, e2, rfl⟩ := DataW.trod_bool Try.underlying4 hy2
  simp only [List.cons.injEq, and_true] at e0 e1 e2
  subst e0 e1 e2
  exact ⟨lo, hi, op, rfl, rfl, rfl, w0, w1⟩

end Go.Proofs.Ytgailbfoicoaiaa

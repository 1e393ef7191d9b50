/-
  Best, the code's and the document's own, by contracts; the plain laws of the better of two.
-/
import Derived.Test.YtfkdhambbpkmpaaYIBest
namespace Go.Proofs.Ytfkdhambbpkmpaa
open Go.RowKit
set_option linter.unusedVariables false
/-- The better of the two. -/
def En.best (a b : En) : En := bif En.newer b a then b else a
theorem best_eqs {a b r : En} {q : Bool} (hq : En.newer b a = q) (h : En.best a b = r) : r = bif q then b else a := by rw [← h, ← hq]; rfl
/-- A block of five cells: what they are, and that they may be written. -/
theorem box5 {w : World} {i : Nat} {a b c d e : Value} {T : TypeId} (h : w.heap[i]? = some (.cells #[a, b, c, d, e] T (0, 0))) :
    (w.cell? ⟨i, 0, none⟩ = some a ∧ w.cell? ⟨i, 1, none⟩ = some b ∧ w.cell? ⟨i, 2, none⟩ = some c ∧ w.cell? ⟨i, 3, none⟩ = some d ∧ w.cell? ⟨i, 4, none⟩ = some e) ∧
    w.frozen? ⟨i, 0, none⟩ = false ∧ w.frozen? ⟨i, 1, none⟩ = false ∧ w.frozen? ⟨i, 2, none⟩ = false ∧ w.frozen? ⟨i, 3, none⟩ = false ∧ w.frozen? ⟨i, 4, none⟩ = false :=
  ⟨⟨by rw [cell_of_row _ _ 0 _ _ _ h]; rfl, by rw [cell_of_row _ _ 1 _ _ _ h]; rfl, by rw [cell_of_row _ _ 2 _ _ _ h]; rfl, by rw [cell_of_row _ _ 3 _ _ _ h]; rfl, by rw [cell_of_row _ _ 4 _ _ _ h]; rfl⟩,
    frozen_of_row _ _ 0 _ _ h, frozen_of_row _ _ 1 _ _ h, frozen_of_row _ _ 2 _ _ h, frozen_of_row _ _ 3 _ _ h, frozen_of_row _ _ 4 _ _ h⟩
theorem set5 {w W : World} {i : Nat} (b : Below w.heap.size w W) (hi : w.heap.size ≤ i) (u0 u1 u2 u3 u4 : Value) :
    Below w.heap.size w (((((W.setCell ⟨i, 0, none⟩ u0).setCell ⟨i, 1, none⟩ u1).setCell ⟨i, 2, none⟩ u2).setCell ⟨i, 3, none⟩ u3).setCell ⟨i, 4, none⟩ u4) :=
  ((((b.setCell (p := ⟨i, 0, none⟩) hi _).setCell (p := ⟨i, 1, none⟩) hi _).setCell (p := ⟨i, 2, none⟩) hi _).setCell (p := ⟨i, 3, none⟩) hi _).setCell (p := ⟨i, 4, none⟩) hi _
theorem best_yes {a b : En} (h : b.c > a.c ∨ (b.c = a.c ∧ a.n < b.n)) : En.best a b = b := by
  unfold En.best; rw [(newer_iff b a).2 (by omega)]; rfl
theorem best_no {a b : En} (h : ¬ (b.c > a.c ∨ (b.c = a.c ∧ a.n < b.n))) : En.best a b = a := by
  unfold En.best; rw [(newer_not b a).2 (by omega)]; rfl
theorem best_two (a b : En) : (En.best a b = b ∧ (b.c > a.c ∨ (b.c = a.c ∧ a.n < b.n))) ∨ (En.best a b = a ∧ ¬ (b.c > a.c ∨ (b.c = a.c ∧ a.n < b.n))) := by
  by_cases h : b.c > a.c ∨ (b.c = a.c ∧ a.n < b.n)
  · exact .inl ⟨best_yes h, h⟩
  · exact .inr ⟨best_no h, h⟩
theorem best_assoc (a b c : En) : En.best (En.best a b) c = En.best a (En.best b c) := by
  rcases best_two a b with ⟨e1, h1⟩ | ⟨e1, h1⟩ <;> rcases best_two b c with ⟨e2, h2⟩ | ⟨e2, h2⟩ <;> rw [e1, e2]
  · rw [best_yes (by omega)]
  · exact e1.symm
  · rw [e1, best_no (by omega)]
end Go.Proofs.Ytfkdhambbpkmpaa

/-
  In, the code's: what of a list is in a range.
-/
import Derived.Test.YtfkdhambbpkmpaaMgList
import Derived.Test.YtfkdhambbpkmpaaYSEmp
import Derived.Deep.RegionHeld
namespace Go.Proofs.Ytfkdhambbpkmpaa
open Go.RowKit
set_option linter.unusedVariables false
/-- The entries in a range. -/
def inL (r : Rg) (l : List En) : List En := l.filter (fun e => Rg.has r e.k)
theorem inL_snoc (r : Rg) (l : List En) (x : En) : inL r (l ++ [x]) = inL r l ++ (if Rg.has r x.k then [x] else []) := by
  unfold inL
  rw [List.filter_append]
  congr 1
  cases h : Rg.has r x.k <;> simp [h]
theorem inL_len (r : Rg) (l : List En) : (inL r l).length ≤ l.length := List.length_filter_le _ _
/-- What is wrong first with a list and a range. -/
def ckR (A : Nat → En) (la : Nat) (r : Rg) : Int := if ckN A la ≠ 0 then ckN A la else r.chk
theorem box3r {w : World} {i : Nat} {a b c : Value} {T : TypeId} (h : w.heap[i]? = some (.cells #[a, b, c] T (0, 0))) : w.cell? ⟨i, 0, none⟩ = some a ∧ w.cell? ⟨i, 1, none⟩ = some b ∧ w.cell? ⟨i, 2, none⟩ = some c :=
  ⟨by rw [cell_of_row _ _ 0 _ _ _ h]; rfl, by rw [cell_of_row _ _ 1 _ _ _ h]; rfl, by rw [cell_of_row _ _ 2 _ _ _ h]; rfl⟩

theorem own_emptyE (w : World) (B : Nat) (h : B ≤ w.heap.size) : (w.alloc (.cells #[] 31)).ownsRow B 31 5 (.slice (some ⟨w.heap.size, 0, none⟩) 0 0) 0 (entCells []) := by
  refine ⟨rfl, .inr ⟨w.heap.size, 0, #[], rfl, h, heap_alloc_new w _, Nat.le_refl _, Nat.zero_le _, rfl, rfl⟩⟩

end Go.Proofs.Ytfkdhambbpkmpaa

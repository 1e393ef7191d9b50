/-
  Blocks and cells that stay; an entry's five cells; Check by its number.
-/
import Derived.Test.YtnjbglnkhgholabDoorIEnt
namespace Go.Proofs.YtnjbglnkhgholabDoor
open Go.RowKit

theorem blk_on {w w' : World} {i : Nat} {o : Obj} (h : w.heap[i]? = some o) (b : Below w.heap.size w w') : w'.heap[i]? = some o := (b.block i (Array.getElem?_eq_some_iff.1 h).1).trans h

theorem cell_in {W W' : World} {p : Addr} {v : Value} (h : W.cell? p = some v) (b : Below W.heap.size W W') : W'.cell? p = some v :=
  (b.cell (World.block_lt_of_cell? W _ h)).trans h

/-- A block of five cells: what they are, and that they may be written. -/
theorem quint {w : World} {i : Nat} {a b c d e : Value} {T : TypeId} (h : w.heap[i]? = some (.cells #[a, b, c, d, e] T (0, 0))) :
    (w.cell? ⟨i, 0, none⟩ = some a ∧ w.cell? ⟨i, 1, none⟩ = some b ∧ w.cell? ⟨i, 2, none⟩ = some c ∧ w.cell? ⟨i, 3, none⟩ = some d ∧ w.cell? ⟨i, 4, none⟩ = some e) ∧
    w.frozen? ⟨i, 0, none⟩ = false ∧ w.frozen? ⟨i, 1, none⟩ = false ∧ w.frozen? ⟨i, 2, none⟩ = false ∧ w.frozen? ⟨i, 3, none⟩ = false ∧ w.frozen? ⟨i, 4, none⟩ = false :=
  ⟨⟨by rw [cell_of_row _ _ 0 _ _ _ h]; rfl, by rw [cell_of_row _ _ 1 _ _ _ h]; rfl, by rw [cell_of_row _ _ 2 _ _ _ h]; rfl, by rw [cell_of_row _ _ 3 _ _ _ h]; rfl, by rw [cell_of_row _ _ 4 _ _ _ h]; rfl⟩,
    frozen_of_row _ _ 0 _ _ h, frozen_of_row _ _ 1 _ _ h, frozen_of_row _ _ 2 _ _ h, frozen_of_row _ _ 3 _ _ h, frozen_of_row _ _ 4 _ _ h⟩

theorem check_is {k : ByteArray} {c n : Int} {v : ByteArray} {d : Bool} {q : Int} (h : En.chk ⟨k, c, n, v, d⟩ = q) (w : World) :
    Calls Tryd.prog 9 #[.agg #[.string k, .int .i64 c, .int .i64 n, .string v, .bool d]] w fun e w' => e = .returned (.int .i64 q) ∧ Below w.heap.size w w' := by
  subst h; exact check_any k c n v d w
theorem checkRef_is {k : ByteArray} {c n : Int} {v : ByteArray} {d : Bool} {q : Int} (h : En.chk ⟨k, c, n, v, d⟩ = q) (w : World) :
    Calls Tryd.prog 12 #[.agg #[.string k, .int .i64 c, .int .i64 n, .string v, .bool d]] w fun e w' => e = .returned (.int .i64 q) ∧ Below w.heap.size w w' := by
  subst h; exact checkRef_any k c n v d w

end Go.Proofs.YtnjbglnkhgholabDoor

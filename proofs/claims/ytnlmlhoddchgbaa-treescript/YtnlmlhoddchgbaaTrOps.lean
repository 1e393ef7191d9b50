/-
  Lists of steps in memory.
-/
import Derived.Test.YtnlmlhoddchgbaaTrUtil
import Derived.OwnWalk
namespace Go.Proofs.Ytnlmlhoddchgbaa
open Go.RowKit
set_option linter.unusedVariables false

/-- A step. -/
structure OpR where
  kind : Int
  tree : Int
  i : Int
  j : Int
  v : Int
  key : ByteArray
  s : Mp

def I64 (x : Int) : Prop := -9223372036854775808 ≤ x ∧ x ≤ 9223372036854775807

/-- The cells of a step. -/
def OpAt (w : World) (b o : Nat) (x : OpR) : Prop :=
  w.cell? ⟨b, o, none⟩ = some (.int .i64 x.kind) ∧ w.cell? ⟨b, o + 1, none⟩ = some (.int .i64 x.tree) ∧ w.cell? ⟨b, o + 2, none⟩ = some (.int .i64 x.i) ∧ w.cell? ⟨b, o + 3, none⟩ = some (.int .i64 x.j) ∧ w.cell? ⟨b, o + 4, none⟩ = some (.int .i64 x.v) ∧ w.cell? ⟨b, o + 5, none⟩ = some (.string x.key) ∧ w.cell? ⟨b, o + 6, none⟩ = some (.int .u64 x.s.a) ∧ w.cell? ⟨b, o + 7, none⟩ = some (.int .u64 x.s.b)

/-- Which numbers a step has. -/
def OpOk (x : OpR) : Prop := I64 x.kind ∧ I64 x.tree ∧ I64 x.i ∧ I64 x.j ∧ I64 x.v

/-- Steps one behind the other. -/
def OpsIn (w : World) (a : Option Addr) (len cap : Nat) (T : Nat → OpR) : Prop :=
  len ≤ cap ∧ cap ≤ maxLen ∧ len * 72 ≤ 140737488351232 ∧ (len = 0 ∨ ∃ b off, a = some ⟨b, off, none⟩ ∧ b < w.heap.size ∧ ∀ i, i < len → OpAt w b (off + i * 8) (T i) ∧ OpOk (T i))

theorem OpAt.below {B : Nat} {w w' : World} {b o : Nat} {x : OpR} (h : OpAt w b o x) (k : Below B w w') (hb : b < B) : OpAt w' b o x := by
  obtain ⟨h0, h1, h2, h3, h4, h5, h6, h7⟩ := h
  exact ⟨(k.cell (p := ⟨b, o, none⟩) hb).trans h0, (k.cell (p := ⟨b, o + 1, none⟩) hb).trans h1, (k.cell (p := ⟨b, o + 2, none⟩) hb).trans h2, (k.cell (p := ⟨b, o + 3, none⟩) hb).trans h3, (k.cell (p := ⟨b, o + 4, none⟩) hb).trans h4, (k.cell (p := ⟨b, o + 5, none⟩) hb).trans h5, (k.cell (p := ⟨b, o + 6, none⟩) hb).trans h6, (k.cell (p := ⟨b, o + 7, none⟩) hb).trans h7⟩

theorem OpsIn.keep {w w' : World} {a : Option Addr} {len cap : Nat} {T : Nat → OpR} (h : OpsIn w a len cap T) (k : Below w.heap.size w w') : OpsIn w' a len cap T := by
  obtain ⟨h1, h2, h3, h4⟩ := h
  refine ⟨h1, h2, h3, ?_⟩
  rcases h4 with h4 | ⟨b, off, e, hb, hc⟩
  · exact .inl h4
  · exact .inr ⟨b, off, e, Nat.lt_of_lt_of_le hb k.size, fun i hi => ⟨(hc i hi).1.below k hb, (hc i hi).2⟩⟩

/-- The eight cells of a step in a box of its own. -/
theorem opBox {w : World} {g : Nat} {x : OpR} {T : TypeId} (h : w.heap[g]? = some (.cells #[.int .i64 x.kind, .int .i64 x.tree, .int .i64 x.i, .int .i64 x.j, .int .i64 x.v, .string x.key, .int .u64 x.s.a, .int .u64 x.s.b] T (0, 0))) :
    w.cell? ⟨g, 0, none⟩ = some (.int .i64 x.kind) ∧ w.cell? ⟨g, 1, none⟩ = some (.int .i64 x.tree) ∧ w.cell? ⟨g, 2, none⟩ = some (.int .i64 x.i) ∧ w.cell? ⟨g, 3, none⟩ = some (.int .i64 x.j) ∧ w.cell? ⟨g, 4, none⟩ = some (.int .i64 x.v) ∧ w.cell? ⟨g, 5, none⟩ = some (.string x.key) ∧ w.cell? ⟨g, 6, none⟩ = some (.int .u64 x.s.a) ∧ w.cell? ⟨g, 7, none⟩ = some (.int .u64 x.s.b) := by
  simp [World.cell?, h]

end Go.Proofs.Ytnlmlhoddchgbaa

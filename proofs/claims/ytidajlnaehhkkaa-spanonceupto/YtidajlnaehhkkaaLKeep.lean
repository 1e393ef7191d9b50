/-
  Frames for the laws' last statements: what lies in boxes stays there while calls go on.
-/
import Derived.Test.YtidajlnaehhkkaaSShown
import Derived.Test.YtidajlnaehhkkaaSAlg2
namespace Go.Proofs.Ytidajlnaehhkkaa
open Go.RowKit

theorem keep2 {w W W' : World} {k0 k1 : Nat} {u0 v0 x0 u1 v1 x1 : Value} (h : Below w.heap.size w W ∧ W.cell? ⟨k0, 0, none⟩ = some u0 ∧ W.cell? ⟨k0, 1, none⟩ = some v0 ∧ W.cell? ⟨k0, 2, none⟩ = some x0 ∧ W.cell? ⟨k1, 0, none⟩ = some u1 ∧ W.cell? ⟨k1, 1, none⟩ = some v1 ∧ W.cell? ⟨k1, 2, none⟩ = some x1) (bb : Below W.heap.size W W') :
    Below w.heap.size w W' ∧ W'.cell? ⟨k0, 0, none⟩ = some u0 ∧ W'.cell? ⟨k0, 1, none⟩ = some v0 ∧ W'.cell? ⟨k0, 2, none⟩ = some x0 ∧ W'.cell? ⟨k1, 0, none⟩ = some u1 ∧ W'.cell? ⟨k1, 1, none⟩ = some v1 ∧ W'.cell? ⟨k1, 2, none⟩ = some x1 := by
  obtain ⟨h0, h1, h2, h3, h4, h5, h6⟩ := h
  exact ⟨bthen h0 bb, cell_on h1 bb, cell_on h2 bb, cell_on h3 bb, cell_on h4 bb, cell_on h5 bb, cell_on h6 bb⟩

theorem keep3 {w W W' : World} {k0 k1 k2 : Nat} {u0 v0 x0 u1 v1 x1 u2 v2 x2 : Value} (h : Below w.heap.size w W ∧ W.cell? ⟨k0, 0, none⟩ = some u0 ∧ W.cell? ⟨k0, 1, none⟩ = some v0 ∧ W.cell? ⟨k0, 2, none⟩ = some x0 ∧ W.cell? ⟨k1, 0, none⟩ = some u1 ∧ W.cell? ⟨k1, 1, none⟩ = some v1 ∧ W.cell? ⟨k1, 2, none⟩ = some x1 ∧ W.cell? ⟨k2, 0, none⟩ = some u2 ∧ W.cell? ⟨k2, 1, none⟩ = some v2 ∧ W.cell? ⟨k2, 2, none⟩ = some x2) (bb : Below W.heap.size W W') :
    Below w.heap.size w W' ∧ W'.cell? ⟨k0, 0, none⟩ = some u0 ∧ W'.cell? ⟨k0, 1, none⟩ = some v0 ∧ W'.cell? ⟨k0, 2, none⟩ = some x0 ∧ W'.cell? ⟨k1, 0, none⟩ = some u1 ∧ W'.cell? ⟨k1, 1, none⟩ = some v1 ∧ W'.cell? ⟨k1, 2, none⟩ = some x1 ∧ W'.cell? ⟨k2, 0, none⟩ = some u2 ∧ W'.cell? ⟨k2, 1, none⟩ = some v2 ∧ W'.cell? ⟨k2, 2, none⟩ = some x2 := by
  obtain ⟨h0, h1, h2, h3, h4, h5, h6, h7, h8, h9⟩ := h
  exact ⟨bthen h0 bb, cell_on h1 bb, cell_on h2 bb, cell_on h3 bb, cell_on h4 bb, cell_on h5 bb, cell_on h6 bb, cell_on h7 bb, cell_on h8 bb, cell_on h9 bb⟩

theorem keep4 {w W W' : World} {k0 k1 k2 k3 : Nat} {u0 v0 x0 u1 v1 x1 u2 v2 x2 u3 v3 x3 : Value} (h : Below w.heap.size w W ∧ W.cell? ⟨k0, 0, none⟩ = some u0 ∧ W.cell? ⟨k0, 1, none⟩ = some v0 ∧ W.cell? ⟨k0, 2, none⟩ = some x0 ∧ W.cell? ⟨k1, 0, none⟩ = some u1 ∧ W.cell? ⟨k1, 1, none⟩ = some v1 ∧ W.cell? ⟨k1, 2, none⟩ = some x1 ∧ W.cell? ⟨k2, 0, none⟩ = some u2 ∧ W.cell? ⟨k2, 1, none⟩ = some v2 ∧ W.cell? ⟨k2, 2, none⟩ = some x2 ∧ W.cell? ⟨k3, 0, none⟩ = some u3 ∧ W.cell? ⟨k3, 1, none⟩ = some v3 ∧ W.cell? ⟨k3, 2, none⟩ = some x3) (bb : Below W.heap.size W W') :
    Below w.heap.size w W' ∧ W'.cell? ⟨k0, 0, none⟩ = some u0 ∧ W'.cell? ⟨k0, 1, none⟩ = some v0 ∧ W'.cell? ⟨k0, 2, none⟩ = some x0 ∧ W'.cell? ⟨k1, 0, none⟩ = some u1 ∧ W'.cell? ⟨k1, 1, none⟩ = some v1 ∧ W'.cell? ⟨k1, 2, none⟩ = some x1 ∧ W'.cell? ⟨k2, 0, none⟩ = some u2 ∧ W'.cell? ⟨k2, 1, none⟩ = some v2 ∧ W'.cell? ⟨k2, 2, none⟩ = some x2 ∧ W'.cell? ⟨k3, 0, none⟩ = some u3 ∧ W'.cell? ⟨k3, 1, none⟩ = some v3 ∧ W'.cell? ⟨k3, 2, none⟩ = some x3 := by
  obtain ⟨h0, h1, h2, h3, h4, h5, h6, h7, h8, h9, h10, h11, h12⟩ := h
  exact ⟨bthen h0 bb, cell_on h1 bb, cell_on h2 bb, cell_on h3 bb, cell_on h4 bb, cell_on h5 bb, cell_on h6 bb, cell_on h7 bb, cell_on h8 bb, cell_on h9 bb, cell_on h10 bb, cell_on h11 bb, cell_on h12 bb⟩

theorem keep5 {w W W' : World} {k0 k1 k2 k3 k4 : Nat} {u0 v0 x0 u1 v1 x1 u2 v2 x2 u3 v3 x3 u4 v4 x4 : Value} (h : Below w.heap.size w W ∧ W.cell? ⟨k0, 0, none⟩ = some u0 ∧ W.cell? ⟨k0, 1, none⟩ = some v0 ∧ W.cell? ⟨k0, 2, none⟩ = some x0 ∧ W.cell? ⟨k1, 0, none⟩ = some u1 ∧ W.cell? ⟨k1, 1, none⟩ = some v1 ∧ W.cell? ⟨k1, 2, none⟩ = some x1 ∧ W.cell? ⟨k2, 0, none⟩ = some u2 ∧ W.cell? ⟨k2, 1, none⟩ = some v2 ∧ W.cell? ⟨k2, 2, none⟩ = some x2 ∧ W.cell? ⟨k3, 0, none⟩ = some u3 ∧ W.cell? ⟨k3, 1, none⟩ = some v3 ∧ W.cell? ⟨k3, 2, none⟩ = some x3 ∧ W.cell? ⟨k4, 0, none⟩ = some u4 ∧ W.cell? ⟨k4, 1, none⟩ = some v4 ∧ W.cell? ⟨k4, 2, none⟩ = some x4) (bb : Below W.heap.size W W') :
    Below w.heap.size w W' ∧ W'.cell? ⟨k0, 0, none⟩ = some u0 ∧ W'.cell? ⟨k0, 1, none⟩ = some v0 ∧ W'.cell? ⟨k0, 2, none⟩ = some x0 ∧ W'.cell? ⟨k1, 0, none⟩ = some u1 ∧ W'.cell? ⟨k1, 1, none⟩ = some v1 ∧ W'.cell? ⟨k1, 2, none⟩ = some x1 ∧ W'.cell? ⟨k2, 0, none⟩ = some u2 ∧ W'.cell? ⟨k2, 1, none⟩ = some v2 ∧ W'.cell? ⟨k2, 2, none⟩ = some x2 ∧ W'.cell? ⟨k3, 0, none⟩ = some u3 ∧ W'.cell? ⟨k3, 1, none⟩ = some v3 ∧ W'.cell? ⟨k3, 2, none⟩ = some x3 ∧ W'.cell? ⟨k4, 0, none⟩ = some u4 ∧ W'.cell? ⟨k4, 1, none⟩ = some v4 ∧ W'.cell? ⟨k4, 2, none⟩ = some x4 := by
  obtain ⟨h0, h1, h2, h3, h4, h5, h6, h7, h8, h9, h10, h11, h12, h13, h14, h15⟩ := h
  exact ⟨bthen h0 bb, cell_on h1 bb, cell_on h2 bb, cell_on h3 bb, cell_on h4 bb, cell_on h5 bb, cell_on h6 bb, cell_on h7 bb, cell_on h8 bb, cell_on h9 bb, cell_on h10 bb, cell_on h11 bb, cell_on h12 bb, cell_on h13 bb, cell_on h14 bb, cell_on h15 bb⟩

theorem meetRef_at {alo ahi blo bhi : ByteArray} {aop bop : Bool} {lo hi : ByteArray} {op is : Bool} (h : Rg.meetV (Rg.meet ⟨alo, ahi, aop⟩ ⟨blo, bhi, bop⟩) = .tuple #[.agg #[.string lo, .string hi, .bool op], .bool is]) (w : World) :
    Calls Try.prog 17 #[.agg #[.string alo, .string ahi, .bool aop], .agg #[.string blo, .string bhi, .bool bop]] w fun e w' => e = .returned (.tuple #[.agg #[.string lo, .string hi, .bool op], .bool is]) ∧ Below w.heap.size w w' := by
  rw [← h, meet_eq]; exact meetRef_any alo ahi blo bhi aop bop w

theorem within_at {alo ahi blo bhi : ByteArray} {aop bop q : Bool} (h : withR ⟨alo, ahi, aop⟩ ⟨blo, bhi, bop⟩ = q) (w : World) :
    Calls Try.prog 18 #[.agg #[.string alo, .string ahi, .bool aop], .agg #[.string blo, .string bhi, .bool bop]] w fun e w' => e = .returned (.bool q) ∧ Below w.heap.size w w' := by
  rw [← h, ← with_eq]; exact within_any alo ahi blo bhi aop bop w

theorem withinRef_at {alo ahi blo bhi : ByteArray} {aop bop q : Bool} (h : withR ⟨alo, ahi, aop⟩ ⟨blo, bhi, bop⟩ = q) (w : World) :
    Calls Try.prog 19 #[.agg #[.string alo, .string ahi, .bool aop], .agg #[.string blo, .string bhi, .bool bop]] w fun e w' => e = .returned (.bool q) ∧ Below w.heap.size w w' := by
  rw [← h]; exact withinRef_any alo ahi blo bhi aop bop w

end Go.Proofs.Ytidajlnaehhkkaa

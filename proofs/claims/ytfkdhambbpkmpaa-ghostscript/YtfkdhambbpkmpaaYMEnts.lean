/-
  A list of entries in memory.
-/
import Derived.Test.YtfkdhambbpkmpaaYMBase
namespace Go.Proofs.Ytfkdhambbpkmpaa
open Go.RowKit
set_option linter.unusedVariables false
/-- A list of entries in memory, with keys of a size that memory has. -/
def EntsIn (w : World) (a : Option Addr) (len cap : Nat) (T : Nat → En) : Prop :=
  len ≤ cap ∧ cap ≤ maxLen ∧ (len = 0 ∨ ∃ b off, a = some ⟨b, off, none⟩ ∧ b < w.heap.size ∧ ∀ i, i < len →
    (w.cell? ⟨b, off + i * 5, none⟩ = some (.string (T i).k) ∧ w.cell? ⟨b, off + i * 5 + 1, none⟩ = some (.int .i64 (T i).c) ∧ w.cell? ⟨b, off + i * 5 + 2, none⟩ = some (.int .i64 (T i).n) ∧ w.cell? ⟨b, off + i * 5 + 3, none⟩ = some (.string (T i).v) ∧ w.cell? ⟨b, off + i * 5 + 4, none⟩ = some (.bool (T i).d)) ∧ (T i).k.size ≤ 140737488351232)

theorem EntsIn.keep {w w' : World} {a : Option Addr} {len cap : Nat} {T : Nat → En} (h : EntsIn w a len cap T) (b : Below w.heap.size w w') : EntsIn w' a len cap T := by
  obtain ⟨h1, h2, h3⟩ := h
  refine ⟨h1, h2, ?_⟩
  rcases h3 with h3 | ⟨bb, off, rfl, hb, hc⟩
  · exact .inl h3
  · refine .inr ⟨bb, off, rfl, by have := b.size; omega, fun i hi => ?_⟩
    obtain ⟨⟨c0, c1, c2, c3, c4⟩, hk⟩ := hc i hi
    exact ⟨⟨cell_in c0 b, cell_in c1 b, cell_in c2 b, cell_in c3 b, cell_in c4 b⟩, hk⟩

/-- The five cells of an entry's block. -/
theorem quint {w : World} {i : Nat} {a b c d e : Value} {T : TypeId} (h : w.heap[i]? = some (.cells #[a, b, c, d, e] T (0, 0))) :
    w.cell? ⟨i, 0, none⟩ = some a ∧ w.cell? ⟨i, 1, none⟩ = some b ∧ w.cell? ⟨i, 2, none⟩ = some c ∧ w.cell? ⟨i, 3, none⟩ = some d ∧ w.cell? ⟨i, 4, none⟩ = some e :=
  ⟨by simp [World.cell?, h], by simp [World.cell?, h], by simp [World.cell?, h], by simp [World.cell?, h], by simp [World.cell?, h]⟩

end Go.Proofs.Ytfkdhambbpkmpaa

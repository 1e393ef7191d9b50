/-
  Lists of rows and of pairs in memory.
-/
import Derived.Test.YtnlmlhoddchgbaaTrOps
namespace Go.Proofs.Ytnlmlhoddchgbaa
open Go.RowKit
set_option linter.unusedVariables false

/-- A row that came in. -/
structure RowR where
  key : ByteArray
  v : Int
  s : Mp

def RowAt (w : World) (b o : Nat) (x : RowR) : Prop :=
  w.cell? ⟨b, o, none⟩ = some (.string x.key) ∧ w.cell? ⟨b, o + 1, none⟩ = some (.int .i64 x.v) ∧ w.cell? ⟨b, o + 2, none⟩ = some (.int .u64 x.s.a) ∧ w.cell? ⟨b, o + 3, none⟩ = some (.int .u64 x.s.b)

def RowsIn6 (w : World) (a : Option Addr) (len cap : Nat) (T : Nat → RowR) : Prop :=
  len ≤ cap ∧ cap ≤ maxLen ∧ len * 40 ≤ 140737488351232 ∧ (len = 0 ∨ ∃ b off, a = some ⟨b, off, none⟩ ∧ b < w.heap.size ∧ ∀ i, i < len → RowAt w b (off + i * 4) (T i) ∧ I64 (T i).v)

theorem RowAt.below {B : Nat} {w w' : World} {b o : Nat} {x : RowR} (h : RowAt w b o x) (k : Below B w w') (hb : b < B) : RowAt w' b o x := by
  obtain ⟨h0, h1, h2, h3⟩ := h
  exact ⟨(k.cell (p := ⟨b, o, none⟩) hb).trans h0, (k.cell (p := ⟨b, o + 1, none⟩) hb).trans h1, (k.cell (p := ⟨b, o + 2, none⟩) hb).trans h2, (k.cell (p := ⟨b, o + 3, none⟩) hb).trans h3⟩

theorem RowsIn6.keep {w w' : World} {a : Option Addr} {len cap : Nat} {T : Nat → RowR} (h : RowsIn6 w a len cap T) (k : Below w.heap.size w w') : RowsIn6 w' a len cap T := by
  obtain ⟨h1, h2, h3, h4⟩ := h
  refine ⟨h1, h2, h3, ?_⟩
  rcases h4 with h4 | ⟨b, off, e, hb, hc⟩
  · exact .inl h4
  · exact .inr ⟨b, off, e, Nat.lt_of_lt_of_le hb k.size, fun i hi => ⟨(hc i hi).1.below k hb, (hc i hi).2⟩⟩

/-- A pair that came in. -/
structure PairR where
  key : ByteArray
  text : ByteArray

def PairAt (w : World) (b o : Nat) (x : PairR) : Prop := w.cell? ⟨b, o, none⟩ = some (.string x.key) ∧ w.cell? ⟨b, o + 1, none⟩ = some (.string x.text)

def PairsIn (w : World) (a : Option Addr) (len cap : Nat) (T : Nat → PairR) : Prop :=
  len ≤ cap ∧ cap ≤ maxLen ∧ len * 32 ≤ 140737488351232 ∧ (len = 0 ∨ ∃ b off, a = some ⟨b, off, none⟩ ∧ b < w.heap.size ∧ ∀ i, i < len → PairAt w b (off + i * 2) (T i))

theorem PairsIn.keep {w w' : World} {a : Option Addr} {len cap : Nat} {T : Nat → PairR} (h : PairsIn w a len cap T) (k : Below w.heap.size w w') : PairsIn w' a len cap T := by
  obtain ⟨h1, h2, h3, h4⟩ := h
  refine ⟨h1, h2, h3, ?_⟩
  rcases h4 with h4 | ⟨b, off, e, hb, hc⟩
  · exact .inl h4
  · exact .inr ⟨b, off, e, Nat.lt_of_lt_of_le hb k.size, fun i hi => ⟨(k.cell (p := ⟨b, off + i * 2, none⟩) hb).trans (hc i hi).1, (k.cell (p := ⟨b, off + i * 2 + 1, none⟩) hb).trans (hc i hi).2⟩⟩

end Go.Proofs.Ytnlmlhoddchgbaa

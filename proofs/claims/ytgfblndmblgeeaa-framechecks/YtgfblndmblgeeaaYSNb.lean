/-
  The iterator over neighbours: what it hands to a loop's body, over every slice of ranges.
-/
import Derived.Test.YtgfblndmblgeeaaYSEmp
import Derived.RangeFuncNested
import Derived.RangeFuncBound
import Derived.RangeFuncCalls
import Derived.RangeFuncLeaves
import Derived.Shelf.Abstract
import Derived.Shelf.RegionOpen
import Derived.OwnWalkIn
import Derived.TacticsInMore
import Derived.LoopNIn
import Derived.LoopIn
import Derived.Stop.RegionWithIn
namespace Go.Proofs.Ytgfblndmblgeeaa
open Go.RowKit Go.Shelf
attribute [local go_sem] Oper.semAt_some
/-- What has come when k rounds are over. -/
def upto {α : Type} (f : Nat → α) (k : Nat) : List α := (List.range k).map f

theorem upto_succ {α : Type} (f : Nat → α) (k : Nat) : upto f (k + 1) = upto f k ++ [f k] := by simp [upto, List.range_succ]

theorem upto_length {α : Type} (f : Nat → α) (k : Nat) : (upto f k).length = k := by simp [upto]

/-- The ranges T 0, T 1 .. lie one behind the other, three cells each, below n₀. -/
def RgsIn (n₀ : Nat) (w : World) (a : Option Addr) (len cap : Nat) (T : Nat → Rg) : Prop :=
  len ≤ cap ∧ len * 40 ≤ 281474976710656 ∧ (len = 0 ∨ ∃ blk off, a = some ⟨blk, off, none⟩ ∧ blk < n₀ ∧ ∀ i, i < len →
    (w.cell? ⟨blk, off + i * 3, none⟩ = some (.string (T i).lo) ∧ w.cell? ⟨blk, off + i * 3 + 1, none⟩ = some (.string (T i).hi) ∧ w.cell? ⟨blk, off + i * 3 + 2, none⟩ = some (.bool (T i).op)))

theorem RgsIn.below {n₀ : Nat} {A B : World} (h : Below n₀ A B) {a : Option Addr} {len cap : Nat} {T : Nat → Rg} (hr : RgsIn n₀ A a len cap T) : RgsIn n₀ B a len cap T := by
  obtain ⟨h1, h2, h3⟩ := hr
  refine ⟨h1, h2, ?_⟩
  rcases h3 with h3 | ⟨blk, off, e, hb, hc⟩
  · exact .inl h3
  · exact .inr ⟨blk, off, e, hb, fun i hi => ⟨(h.cell (p := ⟨blk, off + i * 3, none⟩) hb).trans (hc i hi).1, (h.cell (p := ⟨blk, off + i * 3 + 1, none⟩) hb).trans (hc i hi).2.1, (h.cell (p := ⟨blk, off + i * 3 + 2, none⟩) hb).trans (hc i hi).2.2⟩⟩

def pairV (x : Rg × Rg) : Array Value := #[.agg #[.string x.1.lo, .string x.1.hi, .bool x.1.op], .agg #[.string x.2.lo, .string x.2.hi, .bool x.2.op]]

/-- How a round may end: it goes on, or it says no more. -/
def wentOn (n₀ : Nat) (W : World) (J Jx : List (Rg × Rg) → World → Prop) (xs : List (Rg × Rg)) (q : Bool) (W' : World) : Prop :=
  (q = true ∧ J xs W' ∧ Below n₀ W W') ∨ (q = false ∧ Jx xs W')

theorem grown_drew0 (w : World) : w.grownBy w.drew none := ⟨rfl, rfl, rfl, Nat.le_refl _, fun _ _ _ => rfl⟩





end Go.Proofs.Ytgfblndmblgeeaa

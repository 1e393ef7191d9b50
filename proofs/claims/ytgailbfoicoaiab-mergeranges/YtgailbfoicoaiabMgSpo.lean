/-
  spoil: it turns the entries of its list, and lets it grow: nothing else that was there turns.
-/
import Derived.Test.YtgailbfoicoaiabMgKept
namespace Go.Proofs.Ytgailbfoicoaiab
open Go.RowKit
set_option linter.unusedVariables false

theorem Keeps.rowS {w wr w2 : World} {g g1 : Option Nat} (h1 : Keeps (fun k => g = some k) w wr) (fr : Fresh w g g1) (h2 : Keeps (fun k => g1 = some k) wr w2) : Keeps (fun k => g = some k) w w2 :=
  ⟨h2.os.trans h1.os, h2.tape.trans h1.tape, h2.output.trans h1.output, Nat.le_trans h1.size h2.size, fun k hk hs =>
    (h2.block k (Nat.lt_of_lt_of_le hk h1.size) (fun e => by
      rcases fr with rfl | ⟨j, rfl, hj⟩
      · exact hs e
      · cases e; omega)).trans (h1.block k hk hs)⟩

/-- An entry stored into a row turns the row's block alone. -/
theorem put_keeps (w : World) (g j : Nat) (u0 u1 u2 u3 u4 : Value) : Keeps (fun k => some g = some k) w (((((w.setCell ⟨g, j, none⟩ u0).setCell ⟨g, j + 1, none⟩ u1).setCell ⟨g, j + 2, none⟩ u2).setCell ⟨g, j + 3, none⟩ u3).setCell ⟨g, j + 4, none⟩ u4) :=
  (((((Keeps.refl (fun k => some g = some k) w).setCell (p := ⟨g, j, none⟩) (fun _ => rfl) u0).setCell (p := ⟨g, j + 1, none⟩) (fun _ => rfl) u1).setCell (p := ⟨g, j + 2, none⟩) (fun _ => rfl) u2).setCell (p := ⟨g, j + 3, none⟩) (fun _ => rfl) u3).setCell (p := ⟨g, j + 4, none⟩) (fun _ => rfl) u4


/-- What a spoilt row leaves: what was there below it. -/
theorem spoilt {w0 w w' : World} {v : Value} {n : Nat} {xs : List Value} (b : Below w0.heap.size w0 w) (h : w.ownsRow w0.heap.size 37 5 v n xs) (k : Keeps (fun k => v.ownBlock = some k) w w') : Below w0.heap.size w0 w' :=
  b.trans (k.below b.size (fun j hj e => by have := (h.lt j e).1; omega))

/-- Some answer. -/
def AnyB (w : World) (e : Ending) (w' : World) : Prop := ∃ q, e = .returned (.bool q) ∧ Below w.heap.size w w'
set_option maxHeartbeats 1600000 in
theorem longr_any (lo hi : ByteArray) (op : Bool) (w : World) :
    Calls Try.prog 14 #[.agg #[.string lo, .string hi, .bool op]] w fun e w' => AnyB w e w' := by
  by_cases h1 : (1073741824 : Int) < (lo.size : Int)
  · go_enter Try.func14, Try.ntmps14
    go_wp2
    go_ret
    exact ⟨_, rfl, bnew _ _⟩
  · by_cases h2 : (1073741824 : Int) < (hi.size : Int)
    · go_enter Try.func14, Try.ntmps14
      go_wp2
      go_ret
      exact ⟨_, rfl, bnew _ _⟩
    · go_enter Try.func14, Try.ntmps14
      go_wp2
      go_ret
      exact ⟨_, rfl, bnew _ _⟩

end Go.Proofs.Ytgailbfoicoaiab

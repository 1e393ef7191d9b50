/-
  Scripts over timers, plain, and what a loop over one keeps.
-/
import Derived.Test.YtoajgacofmodoaaTmY
import Derived.Test.YtoajgacofmodoaaTmOS
namespace Go.Proofs.Ytoajgacofmodoaa
open Go.RowKit
set_option linter.unusedVariables false

/-- The alarms behind the first k steps of a script. -/
def runL (R : Nat → Sop) : Nat → List Alm
  | 0 => []
  | k + 1 => stepL (R k).kind (R k).o (R k).l (R k).n (R k).at_ (runL R k)
theorem runL_len (R : Nat → Sop) : ∀ k, (runL R k).length ≤ k
  | 0 => Nat.le_refl _
  | k + 1 => by
    have h1 := runL_len R k
    have h2 := stepL_len (R k).kind (R k).o (R k).l (R k).n (R k).at_ (runL R k)
    show (stepL (R k).kind (R k).o (R k).l (R k).n (R k).at_ (runL R k)).length ≤ k + 1
    omega
/-- A pair, and the box of its pointers. -/
structure DrI (w : World) (qb pt bt pd : Nat) (L : List Alm) (X : World) : Prop where
  bx : X.heap[qb]? = some (.cells #[.pointer (some ⟨pt, 0, none⟩), .pointer (some ⟨pd, 0, none⟩)] 40 (0, 0))
  pr : Pr X pt bt pd L
  bel : Below w.heap.size w X
  ge : w.heap.size ≤ pt ∧ w.heap.size ≤ bt ∧ w.heap.size ≤ pd
theorem DrI.off {w : World} {qb pt bt pd : Nat} {L : List Alm} {X : World} (h : DrI w qb pt bt pd L X) : ¬ OnP bt pd qb := fun e => by
  have h1 := h.bx
  rcases e with e | e
  · obtain ⟨-, -, -, D, ⟨es, clock, hm, -⟩, -⟩ := h.pr.t
    rw [e, hm] at h1; cases h1
  · obtain ⟨v, h2, -⟩ := h.pr.d
    rw [e, h2] at h1; simp at h1
theorem DrI.below {w : World} {qb pt bt pd : Nat} {L : List Alm} {X Y : World} (h : DrI w qb pt bt pd L X) (b : Below X.heap.size X Y) : DrI w qb pt bt pd L Y := ⟨blk_on h.bx b, h.pr.below b, bthen h.bel b, h.ge⟩
theorem DrI.step {w : World} {qb pt bt pd : Nat} {L M : List Alm} {X Y : World} (h : DrI w qb pt bt pd L X) (p : Pr Y pt bt pd M) (k : Keeps (OnP bt pd) X Y) : DrI w qb pt bt pd M Y :=
  ⟨blk_keep h.bx k h.off, p, h.bel.trans (k.below (B := w.heap.size) h.bel.size (fun j hj e => by have h1 := h.ge; rcases e with e | e <;> omega)), h.ge⟩
theorem DrI.cells {w : World} {qb pt bt pd : Nat} {L : List Alm} {X Y : World} (h : DrI w qb pt bt pd L X) (k : Keeps (OnP bt pd) X Y) : (Y.cell? ⟨qb, 0, none⟩ = some (.pointer (some ⟨pt, 0, none⟩)) ∧ Y.cell? ⟨qb, 1, none⟩ = some (.pointer (some ⟨pd, 0, none⟩))) := by
  have k0 := blk_keep h.bx k h.off
  exact ⟨by simp [World.cell?, k0], by simp [World.cell?, k0]⟩

end Go.Proofs.Ytoajgacofmodoaa

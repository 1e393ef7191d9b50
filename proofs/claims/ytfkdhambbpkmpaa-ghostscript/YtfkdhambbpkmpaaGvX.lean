/-
  A ghost of the code beside one of the document that was told the same.
-/
import Derived.Test.YtfkdhambbpkmpaaGvW
import Derived.Test.YtfkdhambbpkmpaaGvO
import Derived.Test.YtfkdhambbpkmpaaGuB
namespace Go.Proofs.Ytfkdhambbpkmpaa
open Go.RowKit
set_option linter.unusedVariables false

structure Gs (w : World) (B p m q N : Nat) (va : Value) (L : List En) (H HR : Nat → Hd) : Prop where
  g : Gh w B p m N L H
  r : Rh w B q va L HR
  same : ∀ i, i < 8 → (H i).l = (HR i).l
  ap : ∀ i, i < 8 → ∀ j, (H i).v.ownBlock = some j → ¬ va.ownBlock = some j
/-- The blocks that a pair lies in. -/
def foot (p m q : Nat) (va : Value) (H HR : Nat → Hd) (k : Nat) : Prop := k = p ∨ k = m ∨ k = q ∨ va.ownBlock = some k ∨ ∃ i, i < 8 ∧ ((H i).v.ownBlock = some k ∨ (HR i).v.ownBlock = some k)
def turnsG (p m q : Nat) (va : Value) (k : Nat) : Prop := k = p ∨ k = m ∨ k = q ∨ va.ownBlock = some k
theorem turnsG_foot {p m q : Nat} {va : Value} {H HR : Nat → Hd} {k : Nat} (h : turnsG p m q va k) : foot p m q va H HR k := by
  rcases h with h | h | h | h
  · exact .inl h
  · exact .inr (.inl h)
  · exact .inr (.inr (.inl h))
  · exact .inr (.inr (.inr (.inl h)))
theorem Gh.mapAt {w : World} {B p m N : Nat} {L : List En} {H : Nat → Hd} (h : Gh w B p m N L H) {cs : Array Value} {t : TypeId} : ¬ w.heap[m]? = some (.cells cs t (0, 0)) := by
  obtain ⟨D, ⟨es, clock, h4, -⟩, -⟩ := h.mp
  intro h5
  rw [h4] at h5
  cases h5
theorem Gs.lt {w : World} {B p m q N : Nat} {va : Value} {L : List En} {H HR : Nat → Hd} (h : Gs w B p m q N va L H HR) {k : Nat} (hk : foot p m q va H HR k) : k < w.heap.size := by
  rcases hk with rfl | rfl | rfl | hk | ⟨i, hi, hk | hk⟩
  · exact lt_of_blk h.g.bx
  · obtain ⟨D, ⟨es, clock, h4, -⟩, -⟩ := h.g.mp
    exact lt_of_blk h4
  · exact lt_of_blk h.r.bx
  · obtain ⟨-, cs, h3⟩ := row_blkM h.r.all hk
    exact lt_of_blk h3
  · obtain ⟨-, cs, h3⟩ := row_blkM (h.g.held i hi) hk
    exact lt_of_blk h3
  · obtain ⟨-, cs, h3⟩ := row_blkM (h.r.held i hi) hk
    exact lt_of_blk h3
theorem Gs.keep {S : Nat → Prop} {w : World} {B p m q N : Nat} {va : Value} {L : List En} {H HR : Nat → Hd} {w' : World} (h : Gs w B p m q N va L H HR) (k : Keeps S w w') (hS : ∀ j, foot p m q va H HR j → ¬ S j) : Gs w' B p m q N va L H HR :=
  ⟨h.g.keep k (hS _ (.inl rfl)) (hS _ (.inr (.inl rfl))) (fun i hi j hj => hS _ (.inr (.inr (.inr (.inr ⟨i, hi, .inl hj⟩))))),
   h.r.keep k (hS _ (.inr (.inr (.inl rfl)))) (fun j hj => hS _ (.inr (.inr (.inr (.inl hj))))) (fun i hi j hj => hS _ (.inr (.inr (.inr (.inr ⟨i, hi, .inr hj⟩))))), h.same, h.ap⟩
theorem Gs.on {w : World} {B p m q N : Nat} {va : Value} {L : List En} {H HR : Nat → Hd} {w' : World} (h : Gs w B p m q N va L H HR) (k : Below w.heap.size w w') : Gs w' B p m q N va L H HR := ⟨h.g.on k, h.r.on k, h.same, h.ap⟩
/-- What turns in the code's map leaves the document's ghost. -/
theorem Gs.rm {w : World} {B p m q N : Nat} {va : Value} {L : List En} {H HR : Nat → Hd} {w' : World} (h : Gs w B p m q N va L H HR) (k : Keeps (fun x => x = m) w w') : Rh w' B q va L HR :=
  h.r.keep k (fun e => h.g.mapAt (by rw [← e]; exact h.r.bx)) (fun j hj e => by obtain ⟨-, cs, h3⟩ := row_blkM h.r.all hj; rw [e] at h3; exact h.g.mapAt h3) (fun i hi j hj e => by obtain ⟨-, cs, h3⟩ := row_blkM (h.r.held i hi) hj; rw [e] at h3; exact h.g.mapAt h3)
/-- What turns in the code's box leaves the document's ghost. -/
theorem Gs.rp {w : World} {B p m q N : Nat} {va : Value} {L : List En} {H HR : Nat → Hd} {w' : World} (h : Gs w B p m q N va L H HR) (k : Keeps (fun x => x = p) w w') : Rh w' B q va L HR :=
  h.r.keep k (fun e => by
    have h3 := h.r.bx
    rw [e, h.g.bx] at h3
    injection h3 with h3
    injection h3 with _ h3
    exact absurd h3 (by decide)) (fun j hj e => by
    obtain ⟨-, cs, h3⟩ := row_blkM h.r.all hj
    rw [e, h.g.bx] at h3
    injection h3 with h3
    injection h3 with _ h3
    exact absurd h3 (by decide)) (fun i hi j hj e => by
    obtain ⟨-, cs, h3⟩ := row_blkM (h.r.held i hi) hj
    rw [e, h.g.bx] at h3
    injection h3 with h3
    injection h3 with _ h3
    exact absurd h3 (by decide))
/-- What turns in the document's ghost leaves the code's. -/
theorem ghKeep {w w' : World} {B p m q N : Nat} {va : Value} {L L' : List En} {H HR : Nat → Hd} (g : Gh w B p m N L H) (r : Rh w B q va L' HR) (ap : ∀ i, i < 8 → ∀ j, (H i).v.ownBlock = some j → ¬ va.ownBlock = some j) (k : Keeps (fun x => x = q ∨ va.ownBlock = some x) w w') : Gh w' B p m N L H :=
  g.keep k (fun e => by
    rcases e with e | e
    · have h3 := g.bx
      rw [e, r.bx] at h3
      injection h3 with h3
      injection h3 with _ h3
      exact absurd h3 (by decide)
    · obtain ⟨-, cs, h3⟩ := row_blkM r.all e
      rw [g.bx] at h3
      injection h3 with h3
      injection h3 with _ h3
      exact absurd h3 (by decide)) (fun e => by
    rcases e with e | e
    · exact g.mapAt (by rw [e]; exact r.bx)
    · obtain ⟨-, cs, h3⟩ := row_blkM r.all e
      exact g.mapAt h3) (fun i hi j hj e => by
    rcases e with e | e
    · obtain ⟨-, cs, h3⟩ := row_blkM (g.held i hi) hj
      rw [e, r.bx] at h3
      injection h3 with h3
      injection h3 with _ h3
      exact absurd h3 (by decide)
    · exact ap i hi j hj e)
/-- What a call leaves of a pair. -/
def StepOut (w w' : World) (B p m q N : Nat) (va : Value) (L : List En) (H HR : Nat → Hd) : Prop :=
  ∃ N' va' L' H' HR', Gs w' B p m q N' va' L' H' HR' ∧ N' ≤ N + 1 ∧ L'.length ≤ L.length + 1 ∧ Keeps (turnsG p m q va) w w' ∧ (∀ k, foot p m q va' H' HR' k → foot p m q va H HR k ∨ w.heap.size ≤ k)
theorem Gs.still {w : World} {B p m q N : Nat} {va : Value} {L : List En} {H HR : Nat → Hd} {w' : World} (h : Gs w B p m q N va L H HR) (b : Below w.heap.size w w') : StepOut w w' B p m q N va L H HR :=
  ⟨N, va, L, H, HR, h.on b, by omega, by omega, Keeps.of_below b _, fun k hk => .inl hk⟩
end Go.Proofs.Ytfkdhambbpkmpaa

/-
  Rows of bytes that are written into, and what stays beside.
-/
import Derived.Test.YtlbkcndmljlnmaaDoorBq31
import Derived.Test.YtlbkcndmljlnmaaDoorBq33
import Derived.Test.YtlbkcndmljlnmaaDoorBq35
import Derived.Test.YtlbkcndmljlnmaaDoorBq36
import Derived.Test.YtlbkcndmljlnmaaDoorBq37
import Derived.Test.YtlbkcndmljlnmaaDoorBq30
namespace Go.Proofs.YtlbkcndmljlnmaaDoor
open Go.RowKit
set_option linter.unusedVariables false
theorem row_frozenI {w : World} {B g n cap : Nat} {xs : List Value} (h : w.ownsRow B 5 1 (.slice (some ⟨g, 0, none⟩) n cap) n xs) (j : Nat) : w.frozen? ⟨g, j, none⟩ = false := by
  rcases h.2 with ⟨h1, _⟩ | ⟨g', cap', cur, h1, h2, h3, h4⟩
  · cases h1
  · injection h1 with e1 e2 e3
    injection e1 with e1
    injection e1 with e1
    subst e1
    exact frozen_of_row _ _ j _ _ h3
theorem DSt.otherI {w : World} {B db : Nat} {nd ck : Int} {l : List En} (h : DSt w B db nd ck l) {i : Nat} {cs : Array Value} {U : TypeId} (hi : w.heap[i]? = some (.cells cs U (0, 0))) (hU : U ≠ 68) : ¬ i = db := by
  obtain ⟨v, h1, -⟩ := h
  rintro rfl
  rw [h1] at hi
  simp only [Option.some.injEq, Obj.cells.injEq] at hi
  exact hU hi.2.1.symm
theorem DSt.set2I {w w' : World} {B db : Nat} {nd ck : Int} {l : List En} (h : DSt w B db nd ck l) {i : Nat} {cs : Array Value} {U : TypeId} (hi : w.heap[i]? = some (.cells cs U (0, 0))) (h1 : U ≠ 68) (h2 : U ≠ 44) (k : Keeps (fun x => x = i) w w') : DSt w' B db nd ck l := by
  have hn := h.otherI hi h1
  obtain ⟨v, d1, d2⟩ := h
  refine ⟨v, blk_keep d1 k (fun e => hn e.symm), d2.1, ?_⟩
  rcases d2.2 with h0 | ⟨g, cap, cur, e1, e2, e3, e4⟩
  · exact .inl h0
  · refine .inr ⟨g, cap, cur, e1, e2, blk_keep e3 k (fun e => ?_), e4⟩
    subst e
    rw [e3] at hi
    simp only [Option.some.injEq, Obj.cells.injEq] at hi
    exact h2 hi.2.1.symm
/-- The block of a row of bytes. -/
theorem row_blkI {w : World} {B g n cap : Nat} {xs : List Value} (h : w.ownsRow B 5 1 (.slice (some ⟨g, 0, none⟩) n cap) n xs) : ∃ cs, w.heap[g]? = some (.cells cs 5 (0, 0)) := by
  rcases h.2 with ⟨h1, -⟩ | ⟨g', cap', cur, h1, -, h3, -⟩
  · cases h1
  · injection h1 with e1 e2 e3
    injection e1 with e1
    injection e1 with e1
    subst e1
    exact ⟨_, h3⟩
/-- A store, and the document's, stay where a row of bytes turns. -/
theorem Sto.byte {w w' : World} {sb gs tb : Nat} {nd ck : Int} {Ls : List En} (h : Sto w sb gs tb nd ck Ls) {B g n cap : Nat} {xs : List Value} (ho : w.ownsRow B 5 1 (.slice (some ⟨g, 0, none⟩) n cap) n xs) (k : Keeps (fun x => x = g) w w') : Sto w' sb gs tb nd ck Ls :=
  h.other k (fun hi h he => by subst he; exact own_notsI ho hi (by rcases h with rfl | rfl | rfl | rfl <;> decide) rfl)
theorem DSt.byte {w w' : World} {D db : Nat} {nd ck : Int} {Ls : List En} (h : DSt w D db nd ck Ls) {B g n cap : Nat} {xs : List Value} (ho : w.ownsRow B 5 1 (.slice (some ⟨g, 0, none⟩) n cap) n xs) (k : Keeps (fun x => x = g) w w') : DSt w' D db nd ck Ls := by
  obtain ⟨cs, hc⟩ := row_blkI ho
  exact h.set2I hc (by decide) (by decide) k
end Go.Proofs.YtlbkcndmljlnmaaDoor

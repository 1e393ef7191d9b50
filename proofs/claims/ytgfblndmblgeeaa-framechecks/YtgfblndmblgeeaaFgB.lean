/-
  One part of a frame of its own turned: the cell of its entries stored.
-/
import Derived.Test.YtgfblndmblgeeaaFgA
namespace Go.Proofs.Ytgfblndmblgeeaa
open Go.RowKit
set_option linter.unusedVariables false
theorem ptCells_set : ∀ (l : List Pm) (j : Nat) (p q : Pm), l[j]? = some p → ptVals q = (ptVals p).set 7 (.slice q.ea q.el q.ec) → (ptCells l).set (j * 8 + 7) (.slice q.ea q.el q.ec) = ptCells (l.set j q)
  | [], j, p, q, h, _ => by simp at h
  | x :: r, 0, p, q, h, hq => by
    simp at h; subst h
    simp only [ptCells, List.set_cons_zero]
    rw [List.set_append_left _ _ (by simp [ptVals]), hq]
  | x :: r, j + 1, p, q, h, hq => by
    simp only [ptCells, List.set_cons_succ]
    rw [List.set_append_right _ _ (by simp [ptVals]; omega)]
    have := ptCells_set r j p q (by simpa using h) hq
    rw [← this]
    congr 2
    simp [ptVals]
    omega
/-- A part with other entries. -/
def Pm.with (p : Pm) (ea : Option Addr) (el ec : Nat) (T : Nat → En) : Pm := ⟨p.kind, p.lo, p.hi, p.op, p.cnt, p.s0, p.s1, ea, el, ec, T⟩
def putP (P : Nat → Pm) (j : Nat) (p : Pm) : Nat → Pm := fun i => if i = j then p else P i
theorem putP_at {P : Nat → Pm} {j : Nat} {p : Pm} : putP P j p j = p := if_pos rfl
theorem putP_ne {P : Nat → Pm} {j i : Nat} {p : Pm} (h : i ≠ j) : putP P j p i = P i := if_neg h
theorem firstP_put (P : Nat → Pm) (n j : Nat) (p : Pm) (h : j < n) : firstP (putP P j p) n = (firstP P n).set j p := by
  apply List.ext_getElem?
  intro i
  unfold firstP
  rw [List.getElem?_map, List.getElem?_set, List.getElem?_map]
  by_cases hi : i < n
  · rw [List.getElem?_range hi]
    by_cases e : j = i
    · subst e
      rw [if_pos rfl, if_pos (by simpa using h)]
      simp [putP]
    · rw [if_neg e]
      simp only [Option.map_some, putP, if_neg (fun q : i = j => e q.symm)]
  · rw [List.getElem?_eq_none (by simpa using hi)]
    by_cases e : j = i
    · omega
    · rw [if_neg e]; rfl
theorem OwnF.put {w : World} {B g n cp j ge el ce : Nat} {P : Nat → Pm} {T : Nat → En} (h : OwnF w B g n cp P) (hj : j < n) (hown : w.ownsRow B 55 5 (.slice (some ⟨ge, 0, none⟩) el ce) el (entCells (firstEF T el))) (hap : ∀ i, i < n → i ≠ j → (P i).ea ≠ some ⟨ge, 0, none⟩) (hk : ∀ k, k < el → (T k).k.size ≤ 140737488351232) :
    OwnF (w.setCell ⟨g, j * 8 + 7, none⟩ (.slice (some ⟨ge, 0, none⟩) el ce)) B g n cp (putP P j ((P j).with (some ⟨ge, 0, none⟩) el ce T)) := by
  refine ⟨?_, fun i hi => ?_, fun i k hi hk' hne => ?_, fun i hi => ?_⟩
  · rw [firstP_put P n j _ hj, ← ptCells_set (firstP P n) j (P j) ((P j).with (some ⟨ge, 0, none⟩) el ce T) (by unfold firstP; rw [List.getElem?_map, List.getElem?_range hj]; rfl) (by rfl)]
    exact (h.row.stored (j * 8 + 7) _).1
  · by_cases e : i = j
    · subst e
      rw [putP_at]
      exact ⟨ge, rfl, own_apartF hown (fun q => by subst q; exact absurd (own_type hown h.row) (by decide)) _⟩
    · rw [putP_ne e]
      obtain ⟨q, k1, k2⟩ := h.ent i hi
      exact ⟨q, k1, own_apartF k2 (fun u => by subst u; exact absurd (own_type k2 h.row) (by decide)) _⟩
  · by_cases e : i = j
    · subst e
      rw [putP_at, putP_ne (fun u => hne u.symm)]
      exact fun u => hap k hk' (fun v => hne v.symm) u.symm
    · rw [putP_ne e]
      by_cases e2 : k = j
      · subst e2
        rw [putP_at]
        exact hap i hi e
      · rw [putP_ne e2]
        exact h.apart i k hi hk' hne
  · by_cases e : i = j
    · subst e
      rw [putP_at]; exact hk
    · rw [putP_ne e]; exact h.keys i hi
/-- A frame of its own as a list of parts in memory. -/
theorem OwnF.parts {w : World} {B g n cp : Nat} {P : Nat → Pm} (h : OwnF w B g n cp P) : PartsIn w (some ⟨g, 0, none⟩) n cp P :=
  parts_of_row h.row (fun i hi => by
    obtain ⟨ge, k1, k2⟩ := h.ent i hi
    unfold Pm.In
    rw [k1]
    exact ents_own k2 (h.keys i hi))
end Go.Proofs.Ytgfblndmblgeeaa

/-
  isOpening and Check, the code's.
  What is wrong with a part's entries: the document's own.
  What is wrong with one part, behind those ahead of it: the document's own.
  What is wrong with one part that has no fields but its own: the document's own (a Print).
  What is wrong with one part that has no fields but its own: the document's own (Items and Reply).
  CheckParts: the document's own.
  Check: the document's own.
  Rows of parts that a call owns: their cells, a list appended.
-/
import Derived.Test.YtpbkjffiohfkcabGreatDoorBs28
import Derived.Test.YtpbkjffiohfkcabGreatDoorBs1
import Derived.Deep.CutBlock
import Derived.Deep.DeepCutAuto
import Derived.Test.YtpbkjffiohfkcabGreatDoorBs23
import Derived.OwnWalk
import Derived.Laws.OwnMore
namespace Go.Proofs.YtpbkjffiohfkcabGreatDoor
open Go.RowKit
set_option linter.unusedVariables false
section
variable {fr tzz o l n tn : Int} {P : Nat → Pm} {len : Nat}
end
end Go.Proofs.YtpbkjffiohfkcabGreatDoor
namespace Go.Proofs.YtpbkjffiohfkcabGreatDoor
open Go.RowKit
set_option linter.unusedVariables false
end Go.Proofs.YtpbkjffiohfkcabGreatDoor
namespace Go.Proofs.YtpbkjffiohfkcabGreatDoor
open Go.RowKit
set_option linter.unusedVariables false
end Go.Proofs.YtpbkjffiohfkcabGreatDoor
namespace Go.Proofs.YtpbkjffiohfkcabGreatDoor
open Go.RowKit
set_option linter.unusedVariables false
end Go.Proofs.YtpbkjffiohfkcabGreatDoor
namespace Go.Proofs.YtpbkjffiohfkcabGreatDoor
open Go.RowKit
set_option linter.unusedVariables false
end Go.Proofs.YtpbkjffiohfkcabGreatDoor
namespace Go.Proofs.YtpbkjffiohfkcabGreatDoor
open Go.RowKit
set_option linter.unusedVariables false
end Go.Proofs.YtpbkjffiohfkcabGreatDoor
namespace Go.Proofs.YtpbkjffiohfkcabGreatDoor
open Go.RowKit
set_option linter.unusedVariables false
end Go.Proofs.YtpbkjffiohfkcabGreatDoor
namespace Go.Proofs.YtpbkjffiohfkcabGreatDoor
open Go.RowKit
set_option linter.unusedVariables false
def ptVals (p : Pm) : List Value := [.int .i64 p.kind, .string p.lo, .string p.hi, .bool p.op, .int .i64 p.cnt, .int .u64 p.s0, .int .u64 p.s1, .slice p.ea p.el p.ec]
def ptCells : List Pm → List Value
  | [] => []
  | e :: r => ptVals e ++ ptCells r
theorem ptCells_length : ∀ l : List Pm, (ptCells l).length = l.length * 8
  | [] => rfl
  | e :: r => by simp only [ptCells, List.length_append, ptCells_length r, List.length_cons, ptVals]; simp; omega
theorem ptCells_append : ∀ l m : List Pm, ptCells (l ++ m) = ptCells l ++ ptCells m
  | [], _ => rfl
  | e :: r, m => by simp [ptCells, ptCells_append r m]
theorem ptCells_at : ∀ (l : List Pm) (i r : Nat) (e : Pm), l[i]? = some e → r < 8 → (ptCells l)[i * 8 + r]? = (ptVals e)[r]?
  | [], i, r, e, h, _ => by simp at h
  | x :: t, 0, r, e, h, hr => by
    simp at h; subst h
    simp only [ptCells]
    rw [List.getElem?_append_left (by simp [ptVals]; omega)]
    simp
  | x :: t, i + 1, r, e, h, hr => by
    simp only [ptCells]
    rw [List.getElem?_append_right (by simp [ptVals]; omega)]
    have := ptCells_at t i r e (by simpa using h) hr
    rw [← this]
    congr 1
    simp [ptVals]
    omega
theorem ptCells_one (l : List Pm) : ∀ u ∈ ptCells l, u.oneCell' = true := by
  induction l with
  | nil => intro u hu; simp [ptCells] at hu
  | cons e r ih =>
    intro u hu
    simp only [ptCells, List.mem_append] at hu
    rcases hu with hu | hu
    · simp [ptVals] at hu
      rcases hu with rfl | rfl | rfl | rfl | rfl | rfl | rfl | rfl <;> rfl
    · exact ih u hu
theorem infoPart : (Tryz.prog.info? 34).map (fun i => (i.zero, i.size, i.bytes)) = some (some (.agg #[.int .i64 0, .string ⟨#[]⟩, .string ⟨#[]⟩, .bool false, .int .i64 0, .int .u64 0, .int .u64 0, .slice none 0 0]), 8, 96) := by kernel_rfl
def pm0 : Pm := ⟨0, ⟨#[]⟩, ⟨#[]⟩, false, 0, 0, 0, none, 0, 0, fun _ => ⟨⟨#[]⟩, 0, 0, ⟨#[]⟩, false⟩⟩
def nthP (l : List Pm) (i : Nat) : Pm := l.getD i pm0
theorem nthP_get {l : List Pm} {i : Nat} (h : i < l.length) : l[i]? = some (nthP l i) := by
  unfold nthP; rw [List.getD, List.getElem?_eq_getElem h]; rfl
def firstP (P : Nat → Pm) (n : Nat) : List Pm := (List.range n).map P
theorem firstP_len (P : Nat → Pm) (n : Nat) : (firstP P n).length = n := by simp [firstP]
theorem firstP_nth (P : Nat → Pm) {n i : Nat} (h : i < n) : nthP (firstP P n) i = P i := by
  unfold nthP firstP
  rw [List.getD, List.getElem?_map, List.getElem?_range h]; rfl
/-- The cells of a part of an owned row. -/
theorem rowP_cells {w : World} {B g cap n : Nat} {l : List Pm} (h : w.ownsRow B 34 8 (.slice (some ⟨g, 0, none⟩) n cap) n (ptCells l)) {i : Nat} (hi : i < l.length) : w.cell? ⟨g, i * 8, none⟩ = some (.int .i64 (nthP l i).kind) ∧ w.cell? ⟨g, i * 8 + 1, none⟩ = some (.string (nthP l i).lo) ∧ w.cell? ⟨g, i * 8 + 2, none⟩ = some (.string (nthP l i).hi) ∧ w.cell? ⟨g, i * 8 + 3, none⟩ = some (.bool (nthP l i).op) ∧ w.cell? ⟨g, i * 8 + 4, none⟩ = some (.int .i64 (nthP l i).cnt) ∧ w.cell? ⟨g, i * 8 + 5, none⟩ = some (.int .u64 (nthP l i).s0) ∧ w.cell? ⟨g, i * 8 + 6, none⟩ = some (.int .u64 (nthP l i).s1) ∧ w.cell? ⟨g, i * 8 + 7, none⟩ = some (.slice (nthP l i).ea (nthP l i).el (nthP l i).ec) := by
  have hn : l.length = n := by have := h.1; rw [ptCells_length] at this; omega
  have e := nthP_get hi
  have c : ∀ r, r < 8 → w.cell? ⟨g, i * 8 + r, none⟩ = (ptVals (nthP l i))[r]? := fun r hr => by
    rw [h.cellAt (i * 8 + r) (by omega), ptCells_at l i r _ e hr]
  exact ⟨by simpa [ptVals] using c 0 (by omega), by simpa [ptVals] using c 1 (by omega), by simpa [ptVals] using c 2 (by omega), by simpa [ptVals] using c 3 (by omega), by simpa [ptVals] using c 4 (by omega), by simpa [ptVals] using c 5 (by omega), by simpa [ptVals] using c 6 (by omega), by simpa [ptVals] using c 7 (by omega)⟩
/-- An owned row as a list of parts in memory. -/
theorem parts_of_row {w : World} {B g cap n : Nat} {P : Nat → Pm} (h : w.ownsRow B 34 8 (.slice (some ⟨g, 0, none⟩) n cap) n (ptCells (firstP P n))) (hin : ∀ i, i < n → (P i).In w) : PartsIn w (some ⟨g, 0, none⟩) n cap P := by
  have hm := row_max h
  refine ⟨hm.1, hm.2, .inr ⟨g, 0, rfl, (h.lt g rfl).2, fun i hi => ⟨?_, hin i hi⟩⟩⟩
  have := rowP_cells h (i := i) (by rw [firstP_len]; exact hi)
  rw [firstP_nth P hi] at this
  simpa [PmAt] using this
/-- The cells of a list of parts that came in. -/
theorem parts_cells {w : World} {y : Addr} {len cap : Nat} {P : Nat → Pm} (h : PartsIn w (some y) len cap P) : ∀ j u, (ptCells (firstP P len))[j]? = some u → w.cell? (y.add j) = some u := by
  intro j u hj
  have hjl : j < len * 8 := by
    have := (List.getElem?_eq_some_iff.1 hj).1
    rw [ptCells_length, firstP_len] at this
    exact this
  rcases h.2.2 with h0 | ⟨b, off, hy, hb, hc⟩
  · omega
  · injection hy with hy
    subst hy
    obtain ⟨⟨c0, c1, c2, c3, c4, c5, c6, c7⟩, -⟩ := hc (j / 8) (by omega)
    have hat := ptCells_at (firstP P len) (j / 8) (j % 8) (P (j / 8)) (by unfold firstP; rw [List.getElem?_map, List.getElem?_range (by omega)]; rfl) (by omega)
    rw [show j / 8 * 8 + j % 8 = j from by omega] at hat
    rw [hat] at hj
    rw [Addr.add_lit, show off + j = off + j / 8 * 8 + j % 8 from by omega]
    have hr : j % 8 < 8 := by omega
    generalize j % 8 = r at *
    match r, hr with
    | 0, _ => simp [ptVals] at hj; subst hj; exact c0
    | 1, _ => simp [ptVals] at hj; subst hj; exact c1
    | 2, _ => simp [ptVals] at hj; subst hj; exact c2
    | 3, _ => simp [ptVals] at hj; subst hj; exact c3
    | 4, _ => simp [ptVals] at hj; subst hj; exact c4
    | 5, _ => simp [ptVals] at hj; subst hj; exact c5
    | 6, _ => simp [ptVals] at hj; subst hj; exact c6
    | 7, _ => simp [ptVals] at hj; subst hj; exact c7
/-- A list of parts appended to an owned row, as one operation. -/
theorem op_append_parts {V w : World} {o : Oper} {act : Act} {K : Act → World → Prop} {Q : Exit → Act → World → Prop} (s x : Operand)
    (ho : o.op = .call { callee := .builtin .append, args := #[s, x], argTypes := #[26, 26] })
    (n : Nat) (v : Value) (A : List Pm) (hs : act.eval s = v) (hA : w.ownsRow V.heap.size 34 8 v n (ptCells A)) (y : Addr) (len cap : Nat) (P : Nat → Pm) (hx : act.eval x = .slice (some y) len cap) (hL : PartsIn w (some y) len cap P)
    (hlen : (n + len) * 96 ≤ 140737488351232) (hB : Below V.heap.size V w)
    (h : ∀ v' w', w'.ownsRow V.heap.size 34 8 v' (n + len) (ptCells (A ++ firstP P len)) → Below V.heap.size V w' → w.grownBy w' v.ownBlock → K (act.put o.dst v') w') : o.wp Tryz.prog act w K Q := by
  obtain ⟨i0, hi, hz0, hz1, hz2⟩ := info_parts infoPart
  refine wp_append_own w s x _ ho V.heap.size 34 i0 _ 8 96 Tryz.underlying26 hi hz0 hz1 hz2 rfl (by decide) _ _ _ hs hA y len cap (ptCells (firstP P len)) hx (by rw [ptCells_length, firstP_len]) (parts_cells hL) (ptCells_one _) (by unfold maxLen; omega) (by omega) hB.size ?_
  intro v' w' ho' hg' _
  rw [← ptCells_append] at ho'
  exact h v' w' ho' (hB.grown hg' hB.size (fun k hk => (hA.lt k hk).1)) hg'
theorem ownP_empty (w : World) (B : Nat) (h : B ≤ w.heap.size) : (w.alloc (.cells #[] 34)).ownsRow B 34 8 (.slice (some ⟨w.heap.size, 0, none⟩) 0 0) 0 (ptCells []) := by
  refine ⟨rfl, .inr ⟨w.heap.size, 0, #[], rfl, h, heap_alloc_new w _, Nat.le_refl _, Nat.zero_le _, rfl, rfl⟩⟩
end Go.Proofs.YtpbkjffiohfkcabGreatDoor

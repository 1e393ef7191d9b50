/-
  Two maps side by side, step by step: plain; rows of pairs in memory.
-/
import Derived.Test.YtfkdhambbpkmpaaDoorBv2
namespace Go.Proofs.YtfkdhambbpkmpaaDoor
open Go.RowKit
set_option linter.unusedVariables false
/-- What came so far, with what is still to come, is all. -/
def PS (A : Nat → En) (la : Nat) (B : Nat → En) (lb : Nat) (pre : List (En × En)) (i j : Nat) : Prop :=
  pre ++ prs ((firstE A la).drop i) ((firstE B lb).drop j) = prs (firstE A la) (firstE B lb)
theorem PS.start (A : Nat → En) (la : Nat) (B : Nat → En) (lb : Nat) : PS A la B lb [] 0 0 := rfl
theorem PS.left {A : Nat → En} {la : Nat} {B : Nat → En} {lb : Nat} {pre : List (En × En)} {i j : Nat} (h : PS A la B lb pre i j) (hi : i < la) (hj : lb ≤ j) : PS A la B lb (pre ++ [(A i, eZ)]) (i + 1) j := by
  unfold PS at *
  rw [firstE_drop A hi, firstE_end B hj, prs_left] at h
  rw [firstE_end B hj, List.append_assoc]
  exact h
theorem PS.right {A : Nat → En} {la : Nat} {B : Nat → En} {lb : Nat} {pre : List (En × En)} {i j : Nat} (h : PS A la B lb pre i j) (hi : la ≤ i) (hj : j < lb) : PS A la B lb (pre ++ [(eZ, B j)]) i (j + 1) := by
  unfold PS at *
  rw [firstE_drop B hj, firstE_end A hi, prs_right] at h
  rw [firstE_end A hi, List.append_assoc]
  exact h
theorem PS.lt {A : Nat → En} {la : Nat} {B : Nat → En} {lb : Nat} {pre : List (En × En)} {i j : Nat} (h : PS A la B lb pre i j) (hi : i < la) (hj : j < lb) (hk : kLt (A i).k (B j).k = true) : PS A la B lb (pre ++ [(A i, eZ)]) (i + 1) j := by
  unfold PS at *
  rw [firstE_drop A hi, firstE_drop B hj, prs_lt _ _ hk, ← firstE_drop B hj] at h
  rw [List.append_assoc]
  exact h
theorem PS.gt {A : Nat → En} {la : Nat} {B : Nat → En} {lb : Nat} {pre : List (En × En)} {i j : Nat} (h : PS A la B lb pre i j) (hi : i < la) (hj : j < lb) (hk : kLt (A i).k (B j).k = false) (hk2 : kLt (B j).k (A i).k = true) : PS A la B lb (pre ++ [(eZ, B j)]) i (j + 1) := by
  unfold PS at *
  rw [firstE_drop A hi, firstE_drop B hj, prs_gt _ _ hk hk2, ← firstE_drop A hi] at h
  rw [List.append_assoc]
  exact h
theorem PS.eq {A : Nat → En} {la : Nat} {B : Nat → En} {lb : Nat} {pre : List (En × En)} {i j : Nat} (h : PS A la B lb pre i j) (hi : i < la) (hj : j < lb) (hk : kLt (A i).k (B j).k = false) (hk2 : kLt (B j).k (A i).k = false) : PS A la B lb (pre ++ [(A i, B j)]) (i + 1) (j + 1) := by
  unfold PS at *
  rw [firstE_drop A hi, firstE_drop B hj, prs_eq _ _ hk hk2] at h
  rw [List.append_assoc]
  exact h
theorem PS.done {A : Nat → En} {la : Nat} {B : Nat → En} {lb : Nat} {pre : List (En × En)} {i j : Nat} (h : PS A la B lb pre i j) (hi : la ≤ i) (hj : lb ≤ j) : pre = prs (firstE A la) (firstE B lb) := by
  unfold PS at h
  rw [firstE_end A hi, firstE_end B hj, prs_nil, List.append_nil] at h
  exact h
theorem PS.part {A : Nat → En} {la : Nat} {B : Nat → En} {lb : Nat} {pre : List (En × En)} {i j : Nat} (h : PS A la B lb pre i j) : ∃ r, pre ++ r = prs (firstE A la) (firstE B lb) := ⟨_, h⟩
/-- A pair's cells. -/
def prVals (p : En × En) : List Value := entVals p.1 ++ entVals p.2
def prCells : List (En × En) → List Value
  | [] => []
  | p :: r => prVals p ++ prCells r
theorem prCells_length : ∀ l : List (En × En), (prCells l).length = l.length * 10
  | [] => rfl
  | e :: r => by simp only [prCells, List.length_append, prCells_length r, List.length_cons, prVals, entVals]; simp; omega
theorem prCells_append : ∀ l m : List (En × En), prCells (l ++ m) = prCells l ++ prCells m
  | [], _ => rfl
  | e :: r, m => by simp [prCells, prCells_append r m]
theorem prCells_one (l : List (En × En)) : ∀ u ∈ prCells l, u.oneCell' = true := by
  induction l with
  | nil => intro u hu; simp [prCells] at hu
  | cons e r ih =>
    intro u hu
    simp only [prCells, List.mem_append] at hu
    rcases hu with hu | hu
    · simp [prVals, entVals] at hu
      rcases hu with rfl | rfl | rfl | rfl | rfl | rfl | rfl | rfl | rfl | rfl <;> rfl
    · exact ih u hu
theorem prCells_at : ∀ (l : List (En × En)) (i r : Nat) (p : En × En), l[i]? = some p → r < 10 → (prCells l)[i * 10 + r]? = (prVals p)[r]?
  | [], i, r, e, h, _ => by simp at h
  | x :: t, 0, r, e, h, hr => by
    simp at h; subst h
    simp only [prCells]
    rw [List.getElem?_append_left (by simp [prVals, entVals]; omega)]
    simp
  | x :: t, i + 1, r, e, h, hr => by
    simp only [prCells]
    rw [List.getElem?_append_right (by simp [prVals, entVals]; omega)]
    have := prCells_at t i r e (by simpa using h) hr
    rw [← this]
    congr 1
    simp [prVals, entVals]
    omega
theorem infoPr : (Tryd.prog.info? 77).map (fun i => (i.zero, i.size, i.bytes)) = some (some (.agg #[.string ⟨#[]⟩, .int .i64 0, .int .i64 0, .string ⟨#[]⟩, .bool false, .string ⟨#[]⟩, .int .i64 0, .int .i64 0, .string ⟨#[]⟩, .bool false]), 10, 112) := by kernel_rfl
/-- One pair appended to an owned row, as one operation. -/
theorem op_append_pr {w : World} {o : Oper} {act : Act} {K : Act → World → Prop} {Q : Exit → Act → World → Prop} (s x : Operand)
    (ho : o.op = .call { callee := .builtin .append, args := #[s, x], argTypes := #[73, 73] })
    (B n : Nat) (v : Value) (l : List (En × En)) (hs : act.eval s = v) (hown : w.ownsRow B 77 10 v n (prCells l)) (b c : Nat) (p : En × En) (hx : act.eval x = .slice (some ⟨b, 0, none⟩) 1 c)
    (hb : w.heap[b]? = some (.cells #[.string p.1.k, .int .i64 p.1.c, .int .i64 p.1.n, .string p.1.v, .bool p.1.d, .string p.2.k, .int .i64 p.2.c, .int .i64 p.2.n, .string p.2.v, .bool p.2.d] 77 (0, 0))) (hlen : n * 112 ≤ 140737488351232) (hB : B ≤ w.heap.size)
    (h : ∀ g cap w', w'.ownsRow B 77 10 (.slice (some ⟨g, 0, none⟩) (n + 1) cap) (n + 1) (prCells (l ++ [p])) → w.grownBy w' v.ownBlock → K (act.put o.dst (.slice (some ⟨g, 0, none⟩) (n + 1) cap)) w') : o.wp Tryd.prog act w K Q := by
  obtain ⟨i0, hi, hz0, hz1, hz2⟩ := info_parts infoPr
  refine wp_append_own w s x _ ho B 77 i0 _ 10 112 Tryd.underlying73 hi hz0 hz1 hz2 rfl (by decide) _ _ _ hs hown ⟨b, 0, none⟩ 1 c (prVals p) hx rfl ?_ (fun u hu => prCells_one [p] u (by simpa [prCells] using hu)) (by unfold maxLen; omega) (by omega) hB ?_
  · exact World.news_of_block (cs := #[.string p.1.k, .int .i64 p.1.c, .int .i64 p.1.n, .string p.1.v, .bool p.1.d, .string p.2.k, .int .i64 p.2.c, .int .i64 p.2.n, .string p.2.v, .bool p.2.d]) (t := 77) (fr := (0, 0)) hb
  · intro v' w' ho' hg _
    have e1 : prCells l ++ prVals p = prCells (l ++ [p]) := by rw [prCells_append]; simp [prCells]
    rw [e1] at ho'
    rcases ho'.2 with ⟨h1, h2⟩ | ⟨g, cap', cur, rfl, _⟩
    · omega
    · exact h g cap' w' ho' hg
theorem own_emptyPr (w : World) (B : Nat) (h : B ≤ w.heap.size) : (w.alloc (.cells #[] 77)).ownsRow B 77 10 (.slice (some ⟨w.heap.size, 0, none⟩) 0 0) 0 (prCells []) := by
  refine ⟨rfl, .inr ⟨w.heap.size, 0, #[], rfl, h, heap_alloc_new w _, Nat.le_refl _, Nat.zero_le _, rfl, rfl⟩⟩
/-- The cells of pair i of an owned row. -/
theorem pr_cells {w : World} {B g cap n : Nat} {l : List (En × En)} (h : w.ownsRow B 77 10 (.slice (some ⟨g, 0, none⟩) n cap) n (prCells l)) {i : Nat} {p : En × En} (hi : l[i]? = some p) :
    (w.cell? ⟨g, i * 10, none⟩ = some (.string p.1.k) ∧ w.cell? ⟨g, i * 10 + 1, none⟩ = some (.int .i64 p.1.c) ∧ w.cell? ⟨g, i * 10 + 2, none⟩ = some (.int .i64 p.1.n) ∧ w.cell? ⟨g, i * 10 + 3, none⟩ = some (.string p.1.v) ∧ w.cell? ⟨g, i * 10 + 4, none⟩ = some (.bool p.1.d)) ∧
    (w.cell? ⟨g, i * 10 + 5, none⟩ = some (.string p.2.k) ∧ w.cell? ⟨g, i * 10 + 6, none⟩ = some (.int .i64 p.2.c) ∧ w.cell? ⟨g, i * 10 + 7, none⟩ = some (.int .i64 p.2.n) ∧ w.cell? ⟨g, i * 10 + 8, none⟩ = some (.string p.2.v) ∧ w.cell? ⟨g, i * 10 + 9, none⟩ = some (.bool p.2.d)) := by
  have hl : l.length = n := by have := h.1; rw [prCells_length] at this; omega
  have hin := (List.getElem?_eq_some_iff.1 hi).1
  have c : ∀ r, r < 10 → w.cell? ⟨g, i * 10 + r, none⟩ = (prVals p)[r]? := fun r hr => by
    rw [h.cellAt (i * 10 + r) (by omega), prCells_at l i r _ hi hr]
  exact ⟨⟨by simpa [prVals, entVals] using c 0 (by omega), by simpa [prVals, entVals] using c 1 (by omega), by simpa [prVals, entVals] using c 2 (by omega), by simpa [prVals, entVals] using c 3 (by omega), by simpa [prVals, entVals] using c 4 (by omega)⟩,
    by simpa [prVals, entVals] using c 5 (by omega), by simpa [prVals, entVals] using c 6 (by omega), by simpa [prVals, entVals] using c 7 (by omega), by simpa [prVals, entVals] using c 8 (by omega), by simpa [prVals, entVals] using c 9 (by omega)⟩
end Go.Proofs.YtfkdhambbpkmpaaDoor

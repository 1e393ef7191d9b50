/-
  Rows of any structs: their cells, slices of them, appends.
-/
import Derived.Test.YteaaamhojiognaaBgI
namespace Go.Proofs.Yteaaamhojiognaa
open Go.RowKit
set_option linter.unusedVariables false

/-- The cells of a list, each one's by f. -/
def rowC {α : Type} (f : α → List Value) : List α → List Value
  | [] => []
  | e :: r => f e ++ rowC f r
/-- f gives m cells, each of them one. -/
structure RowF {α : Type} (f : α → List Value) (m : Nat) : Prop where
  len : ∀ e, (f e).length = m
  one : ∀ e, ∀ u ∈ f e, u.oneCell' = true
  pos : 0 < m
section
variable {α : Type} {f : α → List Value} {m : Nat}
theorem rowC_length (h : RowF f m) : ∀ l : List α, (rowC f l).length = l.length * m
  | [] => by simp [rowC]
  | e :: r => by simp only [rowC, List.length_append, rowC_length h r, List.length_cons, h.len]; rw [Nat.add_mul]; omega
theorem rowC_append : ∀ l k : List α, rowC f (l ++ k) = rowC f l ++ rowC f k
  | [], _ => rfl
  | e :: r, k => by simp [rowC, rowC_append r k]
theorem rowC_at (h : RowF f m) : ∀ (l : List α) (i r : Nat) (e : α), l[i]? = some e → r < m → (rowC f l)[i * m + r]? = (f e)[r]?
  | [], i, r, e, h1, _ => by simp at h1
  | x :: t, 0, r, e, h1, hr => by
    simp at h1; subst h1
    simp only [rowC]
    rw [List.getElem?_append_left (by rw [h.len]; omega)]
    simp
  | x :: t, i + 1, r, e, h1, hr => by
    simp only [rowC]
    have e1 : (i + 1) * m + r = m + (i * m + r) := by rw [Nat.add_mul]; omega
    rw [List.getElem?_append_right (by rw [h.len]; omega), h.len, e1, Nat.add_sub_cancel_left]
    exact rowC_at h t i r e (by simpa using h1) hr
theorem rowC_one (h : RowF f m) (l : List α) : ∀ u ∈ rowC f l, u.oneCell' = true := by
  induction l with
  | nil => intro u hu; simp [rowC] at hu
  | cons e r ih =>
    intro u hu
    simp only [rowC, List.mem_append] at hu
    rcases hu with hu | hu
    · exact h.one e u hu
    · exact ih u hu
theorem rowC_drop (h : RowF f m) (l : List α) : ∀ k, (rowC f l).drop (k * m) = rowC f (l.drop k) := by
  induction l with
  | nil => intro k; simp [rowC]
  | cons e r ih =>
    intro k
    cases k with
    | zero => simp
    | succ k =>
      rw [List.drop_succ_cons, ← ih k]
      simp only [rowC]
      rw [List.drop_append, h.len, show (k + 1) * m = m + k * m from by rw [Nat.add_mul]; omega]
      rw [List.drop_eq_nil_of_le (by rw [h.len]; omega), List.nil_append, Nat.add_sub_cancel_left]
theorem rowC_take (l : List α) (k : Nat) : ∀ (j : Nat) (u : Value), (rowC f (l.take k))[j]? = some u → (rowC f l)[j]? = some u := by
  intro j u h
  have e : rowC f l = rowC f (l.take k) ++ rowC f (l.drop k) := by rw [← rowC_append, List.take_append_drop]
  rw [e, List.getElem?_append_left]
  · exact h
  · exact (List.getElem?_eq_some_iff.1 h).1

/-- A list that can be read. -/
def RowIn (f : α → List Value) (w : World) (a : Option Addr) (n cap : Nat) (l : List α) : Prop :=
  l.length = n ∧ n ≤ cap ∧ cap ≤ maxLen ∧ ((a = none ∧ n = 0 ∧ cap = 0) ∨ ∃ b o, a = some ⟨b, o, none⟩ ∧ b < w.heap.size ∧ ∀ j u, (rowC f l)[j]? = some u → w.cell? ⟨b, o + j, none⟩ = some u)
theorem RowIn.on {w w' : World} {a : Option Addr} {n cap : Nat} {l : List α} (h : RowIn f w a n cap l) (bel : Below w.heap.size w w') : RowIn f w' a n cap l := by
  obtain ⟨h1, h2, h3, h4⟩ := h
  refine ⟨h1, h2, h3, ?_⟩
  rcases h4 with h | ⟨b, o, hx, hb, hc⟩
  · exact .inl h
  · refine .inr ⟨b, o, hx, by have := bel.size; omega, fun j u hj => ?_⟩
    have hcell := hc j u hj
    rw [← hcell]
    exact bel.cell (World.block_lt_of_cell? w _ hcell)
theorem RowIn.keep {S : Nat → Prop} {w w' : World} {a : Option Addr} {n cap : Nat} {l : List α} (h : RowIn f w a n cap l) (k : Keeps S w w') (hS : ∀ x, a = some x → ¬ S x.block) : RowIn f w' a n cap l := by
  obtain ⟨h1, h2, h3, h4⟩ := h
  refine ⟨h1, h2, h3, ?_⟩
  rcases h4 with h | ⟨b, o, hx, hb, hc⟩
  · exact .inl h
  · refine .inr ⟨b, o, hx, by have := k.size; omega, fun j u hj => ?_⟩
    rw [k.cell (p := ⟨b, o + j, none⟩) hb (hS ⟨b, o, none⟩ hx)]
    exact hc j u hj
theorem RowIn.cellAt (hf : RowF f m) {w : World} {b o n cap : Nat} {l : List α} (h : RowIn f w (some ⟨b, o, none⟩) n cap l) {i r : Nat} {p : α} {u : Value} (hi : l[i]? = some p) (hr : r < m) (hu : (f p)[r]? = some u) : w.cell? ⟨b, o + i * m + r, none⟩ = some u := by
  obtain ⟨h1, h2, h3, ⟨h4, -⟩ | ⟨b', o', hx, hb, hc⟩⟩ := h
  · cases h4
  · injection hx with hx
    injection hx with e1 e2
    subst e1 e2
    rw [Nat.add_assoc]
    exact hc _ _ (by rw [rowC_at hf l i r p hi hr]; exact hu)
theorem RowIn.of_own (hf : RowF f m) {w : World} {B e n c : Nat} {a : Option Addr} {l : List α} (h : w.ownsRow B e m (.slice a n c) n (rowC f l)) : RowIn f w a n c l := by
  have hl : l.length = n := by
    have h1 := h.1
    rw [rowC_length hf] at h1
    exact Nat.eq_of_mul_eq_mul_right hf.pos h1
  obtain ⟨a', c', e1, h1, h2, ⟨h3, h4, h5⟩ | ⟨g, rfl, hb, hg⟩⟩ := own_slice h
  · injection e1 with e1 e2 e3
    subst e1 e3
    exact ⟨hl, h1, h2, .inl ⟨h3, h4, h5⟩⟩
  · injection e1 with e1 e2 e3
    subst e1 e3
    refine ⟨hl, h1, h2, .inr ⟨g, 0, rfl, hg, fun j u hj => ?_⟩⟩
    have hjl : j < (rowC f l).length := (List.getElem?_eq_some_iff.1 hj).1
    rw [Nat.zero_add, h.cellAt j (by rw [h.1] at hjl; exact hjl)]
    exact hj
theorem row_len (hf : RowF f m) {w : World} {B e n : Nat} {v : Value} {l : List α} (h : w.ownsRow B e m v n (rowC f l)) : l.length = n := by
  have h1 := h.1
  rw [rowC_length hf] at h1
  exact Nat.eq_of_mul_eq_mul_right hf.pos h1
/-- A list appended to an owned row. -/
theorem op_append_rowC (hf : RowF f m) {w : World} {o : Oper} {act : Act} {K : Act → World → Prop} {Q : Exit → Act → World → Prop} {ts e bts : Nat} {z : Value} (hu : Try.prog.underlying ts = some (.slice e)) (hinf : (Try.prog.info? e).map (fun i => (i.zero, i.size, i.bytes)) = some (some z, m, bts)) (hz : z.cells.size = m) (s x : Operand)
    (ho : o.op = .call { callee := .builtin .append, args := #[s, x], argTypes := #[ts, ts] })
    (B n k : Nat) (v : Value) (l r : List α) (hs : act.eval s = v) (hown : w.ownsRow B e m v n (rowC f l)) (a : Option Addr) (c : Nat) (hx : act.eval x = .slice a k c) (hr : RowIn f w a k c r) (hlen : (n + k) * bts ≤ 140737488355328) (h63 : n + k ≤ maxLen) (hB : B ≤ w.heap.size)
    (h : ∀ v' w', w'.ownsRow B e m v' (n + k) (rowC f (l ++ r)) → w.grownBy w' v.ownBlock → (v'.ownBlock = v.ownBlock ∨ v'.ownBlock = some w.heap.size) → K (act.put o.dst v') w') : o.wp Try.prog act w K Q := by
  obtain ⟨i0, hi, hz0, hz1, hz2⟩ := info_parts hinf
  obtain ⟨h1, h2, h3, ⟨rfl, rfl, rfl⟩ | ⟨b, off, rfl, hb, hc⟩⟩ := hr
  · obtain rfl : r = [] := List.eq_nil_of_length_eq_zero h1
    have hrun := run_append_owned_none (P := Try.prog) (w := w) B ts o.type e i0 m hu hi _ _ _ hown
    unfold Oper.wp
    simp [execOp, ho, resolve, invoke, builtin, hs, hx, hrun, Result.andThen]
    exact h v w (by rw [List.append_nil]; exact hown) (World.grownBy.refl _ _) (.inl rfl)
  · obtain ⟨v', w', hrun, h2, h3, h4, h5⟩ := run_append_own_at (P := Try.prog) w B ts o.type e i0 z m bts hu hi hz0 hz1 hz2 hz hf.pos v n (rowC f l) hown ⟨b, off, none⟩ k c (rowC f r) (by rw [rowC_length hf, h1]) (fun j u hj => by rw [Addr.add_lit]; exact hc j u hj) (rowC_one hf _) h63 hlen hB
    unfold Oper.wp execOp
    simp only [ho, resolve, invoke, builtin, Sem.run_bind, Sem.run_pure, Result.andThen_ok, List.map_toArray, List.map_cons, List.map_nil, hs, hx, hrun]
    rw [← rowC_append] at h2
    exact h v' w' h2 h3 h5
/-- One struct, just laid, as a list. -/
theorem rowIn_new (hf : RowF f m) (e : α) {w : World} {q t : Nat} (hw : w.heap[q]? = some (.cells (f e).toArray t (0, 0))) : RowIn f w (some ⟨q, 0, none⟩) 1 1 [e] := by
  refine ⟨rfl, Nat.le_refl _, by decide, .inr ⟨q, 0, rfl, lt_of_blk hw, fun j u hj => ?_⟩⟩
  rw [Nat.zero_add, cell_of_row _ _ j _ _ _ hw]
  simpa [rowC] using hj
end
end Go.Proofs.Yteaaamhojiognaa

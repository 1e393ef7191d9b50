/-
  Rows of alarms: their cells, one appended to another; a timer of the document's in memory.
-/
import Derived.Test.YtoajgacofmodoaaTmC
import Derived.OwnWalk
import Derived.Laws.OwnMore
namespace Go.Proofs.Ytoajgacofmodoaa
open Go.RowKit
set_option linter.unusedVariables false

def alVals (a : Alm) : List Value := [.int .i64 a.1.1, .int .i64 a.1.2.1, .int .i64 a.1.2.2, .int .i64 a.2]
def alCells : List Alm → List Value
  | [] => []
  | a :: r => alVals a ++ alCells r
theorem alCells_length : ∀ l : List Alm, (alCells l).length = l.length * 4
  | [] => rfl
  | e :: r => by simp only [alCells, List.length_append, alCells_length r, List.length_cons, alVals]; simp; omega
theorem alCells_append : ∀ l m : List Alm, alCells (l ++ m) = alCells l ++ alCells m
  | [], _ => rfl
  | e :: r, m => by simp [alCells, alCells_append r m]
theorem alCells_at : ∀ (l : List Alm) (i r : Nat) (e : Alm), l[i]? = some e → r < 4 → (alCells l)[i * 4 + r]? = (alVals e)[r]?
  | [], i, r, e, h, _ => by simp at h
  | x :: t, 0, r, e, h, hr => by
    simp at h; subst h
    simp only [alCells]
    rw [List.getElem?_append_left (by simp [alVals]; omega)]
    simp
  | x :: t, i + 1, r, e, h, hr => by
    simp only [alCells]
    rw [List.getElem?_append_right (by simp [alVals]; omega)]
    have := alCells_at t i r e (by simpa using h) hr
    rw [← this]
    congr 1
    simp [alVals]
    omega
theorem alCells_one (l : List Alm) : ∀ u ∈ alCells l, u.oneCell' = true := by
  induction l with
  | nil => intro u hu; simp [alCells] at hu
  | cons e r ih =>
    intro u hu
    simp only [alCells, List.mem_append] at hu
    rcases hu with hu | hu
    · simp [alVals] at hu
      rcases hu with rfl | rfl | rfl | rfl <;> rfl
    · exact ih u hu
theorem alCells_drop (l : List Alm) : ∀ k, (alCells l).drop (k * 4) = alCells (l.drop k) := by
  induction l with
  | nil => intro k; simp [alCells]
  | cons e r ih =>
    intro k
    cases k with
    | zero => simp
    | succ k =>
      rw [List.drop_succ_cons, ← ih k]
      simp only [alCells, alVals]
      rw [show (k + 1) * 4 = k * 4 + 4 from by omega]
      simp
theorem alCells_take (l : List Alm) (k : Nat) : ∀ (j : Nat) (u : Value), (alCells (l.take k))[j]? = some u → (alCells l)[j]? = some u := by
  intro j u h
  have e : alCells l = alCells (l.take k) ++ alCells (l.drop k) := by rw [← alCells_append, List.take_append_drop]
  rw [e, List.getElem?_append_left]
  · exact h
  · exact (List.getElem?_eq_some_iff.1 h).1
def infoAl (e : TypeId) : Prop := (Try.prog.info? e).map (fun i => (i.zero, i.size, i.bytes)) = some (some (.agg #[.int .i64 0, .int .i64 0, .int .i64 0, .int .i64 0]), 4, 32)
theorem infoR : infoAl 57 := by unfold infoAl; kernel_rfl
theorem infoC : infoAl 62 := by unfold infoAl; kernel_rfl

/-- The cells of an alarm of an owned row. -/
theorem al_cells {w : World} {B e g cap n : Nat} {l : List Alm} (h : w.ownsRow B e 4 (.slice (some ⟨g, 0, none⟩) n cap) n (alCells l)) {i : Nat} {a : Alm} (hi : l[i]? = some a) :
    w.cell? ⟨g, i * 4, none⟩ = some (.int .i64 a.1.1) ∧ w.cell? ⟨g, i * 4 + 1, none⟩ = some (.int .i64 a.1.2.1) ∧ w.cell? ⟨g, i * 4 + 2, none⟩ = some (.int .i64 a.1.2.2) ∧ w.cell? ⟨g, i * 4 + 3, none⟩ = some (.int .i64 a.2) := by
  have hn : l.length = n := by have := h.1; rw [alCells_length] at this; omega
  have hl : i < l.length := (List.getElem?_eq_some_iff.1 hi).1
  have c : ∀ r, r < 4 → w.cell? ⟨g, i * 4 + r, none⟩ = (alVals a)[r]? := fun r hr => by
    rw [h.cellAt (i * 4 + r) (by omega), alCells_at l i r _ hi hr]
  exact ⟨by simpa [alVals] using c 0 (by omega), by simpa [alVals] using c 1 (by omega), by simpa [alVals] using c 2 (by omega), by simpa [alVals] using c 3 (by omega)⟩
theorem al_len {w : World} {B e n : Nat} {v : Value} {l : List Alm} (h : w.ownsRow B e 4 v n (alCells l)) : l.length = n := by have := h.1; rw [alCells_length] at this; omega

theorem own_low {w : World} {base base' : Nat} {e : TypeId} {size : Nat} {v : Value} {n : Nat} {xs : List Value} (h : w.ownsRow base e size v n xs) (hb : base' ≤ base) : w.ownsRow base' e size v n xs := by
  refine ⟨h.1, ?_⟩
  rcases h.2 with h0 | ⟨g, cap, cur, h1, h2, h3⟩
  · exact .inl h0
  · exact .inr ⟨g, cap, cur, h1, Nat.le_trans hb h2, h3⟩
theorem own_on {w w' : World} {base : Nat} {e : TypeId} {size : Nat} {v : Value} {n : Nat} {xs : List Value} (h : w.ownsRow base e size v n xs) (hb : Below w.heap.size w w') : w'.ownsRow base e size v n xs := by
  refine ⟨h.1, ?_⟩
  rcases h.2 with h0 | ⟨g, cap, cur, h1, h2, h3, h4⟩
  · exact .inl h0
  · exact .inr ⟨g, cap, cur, h1, h2, blk_on h3 hb, h4⟩
theorem own_keep {w w' : World} {S : Nat → Prop} {B : Nat} {e : TypeId} {s : Nat} {v : Value} {n : Nat} {xs : List Value} (h : w.ownsRow B e s v n xs) (k : Keeps S w w') (hn : ∀ i cs, w.heap[i]? = some (.cells cs e (0, 0)) → ¬ S i) : w'.ownsRow B e s v n xs := by
  refine ⟨h.1, ?_⟩
  rcases h.2 with h5 | ⟨g2, cap, cur, e1, e2, e3, e4⟩
  · exact .inl h5
  · exact .inr ⟨g2, cap, cur, e1, e2, blk_keep e3 k (hn _ _ e3), e4⟩
theorem own_slice {w : World} {B : Nat} {e : TypeId} {s : Nat} {v : Value} {n : Nat} {xs : List Value} (h : w.ownsRow B e s v n xs) : ∃ a c, v = .slice a n c ∧ n ≤ c ∧ c ≤ maxLen ∧ ((a = none ∧ n = 0 ∧ c = 0) ∨ ∃ g, a = some ⟨g, 0, none⟩ ∧ B ≤ g ∧ g < w.heap.size) := by
  rcases h.2 with ⟨rfl, rfl⟩ | ⟨g, cap, cur, rfl, hb, hg, hn, hm, _⟩
  · exact ⟨none, 0, rfl, Nat.le_refl _, Nat.zero_le _, .inl ⟨rfl, rfl, rfl⟩⟩
  · exact ⟨_, cap, rfl, hn, hm, .inr ⟨g, rfl, hb, lt_of_blk hg⟩⟩

/-- Alarms appended to an owned row, as one operation. -/
theorem op_append_al {w : World} {o : Oper} {act : Act} {K : Act → World → Prop} {Q : Exit → Act → World → Prop} {ts e : TypeId} (hu : Try.prog.underlying ts = some (.slice e)) (hinf : infoAl e) (s x : Operand)
    (ho : o.op = .call { callee := .builtin .append, args := #[s, x], argTypes := #[ts, ts] })
    (B n m : Nat) (v : Value) (l r : List Alm) (hs : act.eval s = v) (hown : w.ownsRow B e 4 v n (alCells l)) (y : Addr) (c : Nat) (hx : act.eval x = .slice (some y) m c) (hm : r.length = m)
    (hc : ∀ (j : Nat) (u : Value), (alCells r)[j]? = some u → w.cell? (y.add j) = some u) (hlen : (n + m) * 32 ≤ 140737488351232) (hB : B ≤ w.heap.size)
    (h : ∀ v' w', w'.ownsRow B e 4 v' (n + m) (alCells (l ++ r)) → w.grownBy w' v.ownBlock → K (act.put o.dst v') w') : o.wp Try.prog act w K Q := by
  obtain ⟨i0, hi, hz0, hz1, hz2⟩ := info_parts hinf
  refine wp_append_own w s x _ ho B e i0 _ 4 32 hu hi hz0 hz1 hz2 rfl (by decide) _ _ _ hs hown y m c (alCells r) hx (by rw [alCells_length, hm]) hc (alCells_one _) (by unfold maxLen; omega) (by omega) hB ?_
  intro v' w' ho' hg' _
  rw [← alCells_append] at ho'
  exact h v' w' ho' hg'

/-- A timer of the document's: its block, and the row of its alarms. -/
def DTm (w : World) (p : Nat) (L : List Alm) : Prop := ∃ v, w.heap[p]? = some (.cells #[v] 52 (0, 0)) ∧ w.ownsRow 0 57 4 v L.length (alCells L)
theorem DTm.below {w w' : World} {p : Nat} {L : List Alm} (h : DTm w p L) (b : Below w.heap.size w w') : DTm w' p L := by
  obtain ⟨v, h1, h2⟩ := h
  exact ⟨v, blk_on h1 b, own_on h2 b⟩
theorem DTm.keep {S : Nat → Prop} {w w' : World} {p : Nat} {L : List Alm} (h : DTm w p L) (k : Keeps S w w') (hp : ¬ S p) (hn : ∀ i cs, w.heap[i]? = some (.cells cs 57 (0, 0)) → ¬ S i) : DTm w' p L := by
  obtain ⟨v, h1, h2⟩ := h
  exact ⟨v, blk_keep h1 k hp, own_keep h2 k hn⟩
/-- Neither a timer's block nor a map is a row of alarms. -/
theorem DTm.far {w : World} {p : Nat} {L : List Alm} (h : DTm w p L) : ∀ i cs, w.heap[i]? = some (.cells cs 57 (0, 0)) → ¬ i = p := fun i cs hi e => by
  obtain ⟨v, h1, -⟩ := h
  rw [e, h1] at hi
  simp at hi
theorem Tim.far {w : World} {p b : Nat} {L : List Alm} (h : Tim w p b L) (e : TypeId) : ∀ i cs, w.heap[i]? = some (.cells cs e (0, 0)) → ¬ i = b := fun i cs hi e => by
  obtain ⟨-, -, -, D, ⟨es, clock, h4, -⟩, -⟩ := h
  rw [e, h4] at hi
  cases hi

end Go.Proofs.Ytoajgacofmodoaa

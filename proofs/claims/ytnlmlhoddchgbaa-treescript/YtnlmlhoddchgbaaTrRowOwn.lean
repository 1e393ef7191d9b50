/-
  Rows that a call owns: their cells, one row appended, one stored; lists in the order of the places.
-/
import Derived.Test.YtnlmlhoddchgbaaTrGrown
import Derived.Test.YtnlmlhoddchgbaaTrTurn
import Derived.OwnWalk
import Derived.Laws.OwnMore
import Derived.Maps.AppendAt
namespace Go.Proofs.Ytnlmlhoddchgbaa
open Go.RowKit
set_option linter.unusedVariables false

def rowVals (e : RowR) : List Value := [.string e.key, .int .i64 e.v, .int .u64 e.s.a, .int .u64 e.s.b]

def rowCells : List RowR → List Value
  | [] => []
  | e :: r => rowVals e ++ rowCells r

theorem rowCells_length : ∀ l : List RowR, (rowCells l).length = l.length * 4
  | [] => rfl
  | e :: r => by simp only [rowCells, List.length_append, rowCells_length r, List.length_cons, rowVals]; simp; omega

theorem rowCells_append : ∀ l m : List RowR, rowCells (l ++ m) = rowCells l ++ rowCells m
  | [], _ => rfl
  | e :: r, m => by simp [rowCells, rowCells_append r m]

theorem rowCells_at : ∀ (l : List RowR) (i r : Nat) (e : RowR), l[i]? = some e → r < 4 → (rowCells l)[i * 4 + r]? = (rowVals e)[r]?
  | [], i, r, e, h, _ => by simp at h
  | x :: t, 0, r, e, h, hr => by
    simp at h; subst h
    simp only [rowCells]
    rw [List.getElem?_append_left (by simp [rowVals]; omega)]
    simp
  | x :: t, i + 1, r, e, h, hr => by
    simp only [rowCells]
    rw [List.getElem?_append_right (by simp [rowVals]; omega)]
    have := rowCells_at t i r e (by simpa using h) hr
    rw [← this]
    congr 1
    simp [rowVals]
    omega

theorem rowCells_one (l : List RowR) : ∀ u ∈ rowCells l, u.oneCell' = true := by
  induction l with
  | nil => intro u hu; simp [rowCells] at hu
  | cons e r ih =>
    intro u hu
    simp only [rowCells, List.mem_append] at hu
    rcases hu with hu | hu
    · simp [rowVals] at hu
      rcases hu with rfl | rfl | rfl | rfl <;> rfl
    · exact ih u hu

theorem infoRow : (Try.prog.info? 64).map (fun i => (i.zero, i.size, i.bytes)) = some (some (.agg #[.string ⟨#[]⟩, .int .i64 0, .int .u64 0, .int .u64 0]), 4, 40) := by kernel_rfl

def nthR (l : List RowR) (i : Nat) : RowR := l.getD i ⟨⟨#[]⟩, 0, ⟨0, 0⟩⟩

theorem nthR_get {l : List RowR} {i : Nat} (h : i < l.length) : l[i]? = some (nthR l i) := by
  unfold nthR; rw [List.getD, List.getElem?_eq_getElem h]; rfl

def ValsOk (l : List RowR) : Prop := ∀ e ∈ l, I64 e.v

theorem row_at {w : World} {B g cap n : Nat} {l : List RowR} (h : w.ownsRow B 64 4 (.slice (some ⟨g, 0, none⟩) n cap) n (rowCells l)) {i : Nat} (hi : i < l.length) : RowAt w g (i * 4) (nthR l i) := by
  have hn : l.length = n := by have := h.1; rw [rowCells_length] at this; omega
  have e := nthR_get hi
  have c : ∀ r, r < 4 → w.cell? ⟨g, i * 4 + r, none⟩ = (rowVals (nthR l i))[r]? := fun r hr => by
    rw [h.cellAt (i * 4 + r) (by omega), rowCells_at l i r _ e hr]
  exact ⟨by simpa [rowVals] using c 0 (by omega), by simpa [rowVals] using c 1 (by omega), by simpa [rowVals] using c 2 (by omega), by simpa [rowVals] using c 3 (by omega)⟩

theorem own_slice {w : World} {B : Nat} {e : TypeId} {s : Nat} {v : Value} {n : Nat} {xs : List Value} (h : w.ownsRow B e s v n xs) : ∃ a c, v = .slice a n c ∧ n ≤ c ∧ c ≤ maxLen ∧ ((a = none ∧ n = 0 ∧ c = 0) ∨ ∃ g, a = some ⟨g, 0, none⟩ ∧ B ≤ g) := by
  rcases h.2 with ⟨rfl, rfl⟩ | ⟨g, cap, cur, rfl, hb, _, hn, hm, _⟩
  · exact ⟨none, 0, rfl, Nat.le_refl _, Nat.zero_le _, .inl ⟨rfl, rfl, rfl⟩⟩
  · exact ⟨_, cap, rfl, hn, hm, .inr ⟨g, rfl, hb⟩⟩

theorem own_on {w w' : World} {base : Nat} {e : TypeId} {size : Nat} {v : Value} {n : Nat} {xs : List Value} (h : w.ownsRow base e size v n xs) (hb : Below w.heap.size w w') : w'.ownsRow base e size v n xs := by
  refine ⟨h.1, ?_⟩
  rcases h.2 with h0 | ⟨g, cap, cur, h1, h2, h3, h4⟩
  · exact .inl h0
  · exact .inr ⟨g, cap, cur, h1, h2, blk_on h3 hb, h4⟩

/-- An owned row as rows that came in. -/
theorem rows_of_row {w : World} {B n cap : Nat} {a : Option Addr} {l : List RowR} (h : w.ownsRow B 64 4 (.slice a n cap) n (rowCells l)) (hv : ValsOk l) (hs : n * 40 ≤ 140737488351232) : RowsIn6 w a n cap (nthR l) := by
  have hn : l.length = n := by have := h.1; rw [rowCells_length] at this; omega
  obtain ⟨a', c', e, h1, h2, h3⟩ := own_slice h
  injection e with e1 e2 e3
  subst e1 e3
  refine ⟨h1, h2, hs, ?_⟩
  rcases h3 with ⟨rfl, h0, _⟩ | ⟨g, rfl, hb⟩
  · exact .inl h0
  · refine .inr ⟨g, 0, rfl, (h.lt g rfl).2, fun i hi => ⟨?_, hv _ (List.mem_of_getElem? (nthR_get (l := l) (i := i) (by omega)))⟩⟩
    have := row_at h (i := i) (by omega)
    rw [Nat.zero_add]
    exact this

/-- One row appended to an owned row, as one operation. -/
theorem op_append_row {w : World} {o : Oper} {act : Act} {K : Act → World → Prop} {Q : Exit → Act → World → Prop} (s x : Operand)
    (ho : o.op = .call { callee := .builtin .append, args := #[s, x], argTypes := #[58, 58] })
    (B n : Nat) (v : Value) (l : List RowR) (hs : act.eval s = v) (hown : w.ownsRow B 64 4 v n (rowCells l)) (b c : Nat) (e : RowR) (hx : act.eval x = .slice (some ⟨b, 0, none⟩) 1 c)
    (hb : w.heap[b]? = some (.cells #[.string e.key, .int .i64 e.v, .int .u64 e.s.a, .int .u64 e.s.b] 64 (0, 0))) (hlen : n * 40 ≤ 140737488351232) (hB : B ≤ w.heap.size)
    (h : ∀ g cap w', w'.ownsRow B 64 4 (.slice (some ⟨g, 0, none⟩) (n + 1) cap) (n + 1) (rowCells (l ++ [e])) → w.grownBy w' v.ownBlock → K (act.put o.dst (.slice (some ⟨g, 0, none⟩) (n + 1) cap)) w') : o.wp Try.prog act w K Q := by
  obtain ⟨i0, hi, hz0, hz1, hz2⟩ := info_parts infoRow
  refine wp_append_own w s x _ ho B 64 i0 _ 4 40 Try.underlying58 hi hz0 hz1 hz2 rfl (by decide) _ _ _ hs hown ⟨b, 0, none⟩ 1 c (rowVals e) hx rfl ?_ (fun u hu => rowCells_one [e] u (by simpa [rowCells] using hu)) (by unfold maxLen; omega) (by omega) hB ?_
  · exact World.news_of_block (cs := #[.string e.key, .int .i64 e.v, .int .u64 e.s.a, .int .u64 e.s.b]) (t := 64) (fr := (0, 0)) hb
  · intro v' w' ho' hg _
    have e1 : rowCells l ++ rowVals e = rowCells (l ++ [e]) := by rw [rowCells_append]; simp [rowCells]
    rw [e1] at ho'
    rcases ho'.2 with ⟨h1, h2⟩ | ⟨g, cap', cur, rfl, _⟩
    · omega
    · exact h g cap' w' ho' hg

theorem rowCells_put : ∀ (l : List RowR) (j : Nat) (e : RowR), j < l.length → ((((rowCells l).set (j * 4) (.string e.key)).set (j * 4 + 1) (.int .i64 e.v)).set (j * 4 + 2) (.int .u64 e.s.a)).set (j * 4 + 3) (.int .u64 e.s.b) = rowCells (l.set j e)
  | [], j, e, h => by simp at h
  | x :: t, 0, e, h => by simp [rowCells, rowVals]
  | x :: t, j + 1, e, h => by
    have ih := rowCells_put t j e (by simpa using h)
    simp only [rowCells, List.set_cons_succ]
    rw [List.set_append_right _ _ (by simp [rowVals]; omega), List.set_append_right _ _ (by simp [rowVals]; omega), List.set_append_right _ _ (by simp [rowVals]; omega), List.set_append_right _ _ (by simp [rowVals]; omega)]
    simp only [show (rowVals x).length = 4 from rfl]
    rw [show (j + 1) * 4 - 4 = j * 4 from by omega, show (j + 1) * 4 + 1 - 4 = j * 4 + 1 from by omega, show (j + 1) * 4 + 2 - 4 = j * 4 + 2 from by omega, show (j + 1) * 4 + 3 - 4 = j * 4 + 3 from by omega, ih]

/-- A world behind the store of a row. -/
def putRow (w : World) (g j : Nat) (e : RowR) : World := (((w.setCell ⟨g, j * 4, none⟩ (.string e.key)).setCell ⟨g, j * 4 + 1, none⟩ (.int .i64 e.v)).setCell ⟨g, j * 4 + 2, none⟩ (.int .u64 e.s.a)).setCell ⟨g, j * 4 + 3, none⟩ (.int .u64 e.s.b)

theorem own_put {w : World} {B g n cap j : Nat} {l : List RowR} (h : w.ownsRow B 64 4 (.slice (some ⟨g, 0, none⟩) n cap) n (rowCells l)) (e : RowR) (hj : j < l.length) :
    (putRow w g j e).ownsRow B 64 4 (.slice (some ⟨g, 0, none⟩) n cap) n (rowCells (l.set j e)) := by
  rw [← rowCells_put l j e hj]
  exact ((((h.stored (j * 4) _).1.stored (j * 4 + 1) _).1.stored (j * 4 + 2) _).1.stored (j * 4 + 3) _).1

/-- Two places of a list changed about. -/
def swapR (l : List RowR) (i k : Nat) : List RowR := (l.set i (nthR l k)).set k (nthR l i)

theorem swapR_length (l : List RowR) (i k : Nat) : (swapR l i k).length = l.length := by simp [swapR]

theorem swapR_perm (l : List RowR) {i k : Nat} (hi : i < l.length) (hk : k < l.length) : (swapR l i k).Perm l := by
  have e1 : nthR l k = l[k] := by have := nthR_get hk; rw [List.getElem?_eq_getElem hk] at this; exact (Option.some.inj this).symm
  have e2 : nthR l i = l[i] := by have := nthR_get hi; rw [List.getElem?_eq_getElem hi] at this; exact (Option.some.inj this).symm
  unfold swapR
  rw [e1, e2]
  exact List.set_set_perm hi hk

/-! Lists in the order of the places. -/

def rowOf (x : RowR) : Rw Int Mp := ⟨x.key, x.v, x.s⟩

theorem treeR_treeL (T : Nat → RowR) : ∀ n, treeR T n = treeL ((List.range n).map fun i => rowOf (T i))
  | 0 => rfl
  | n + 1 => by
    rw [List.range_succ, List.map_append, List.map_cons, List.map_nil, treeL_snoc, ← treeR_treeL T n]
    rfl

end Go.Proofs.Ytnlmlhoddchgbaa

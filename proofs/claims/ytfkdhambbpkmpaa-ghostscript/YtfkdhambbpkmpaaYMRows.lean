/-
  Rows of entries that a call owns: their cells, copies by append, one entry appended.
-/
import Derived.Test.YtfkdhambbpkmpaaYMEnts
import Derived.OwnWalk
import Derived.Laws.OwnMore
namespace Go.Proofs.Ytfkdhambbpkmpaa
open Go.RowKit
set_option linter.unusedVariables false
def entVals (e : En) : List Value := [.string e.k, .int .i64 e.c, .int .i64 e.n, .string e.v, .bool e.d]

def entCells : List En → List Value
  | [] => []
  | e :: r => entVals e ++ entCells r

theorem entCells_length : ∀ l : List En, (entCells l).length = l.length * 5
  | [] => rfl
  | e :: r => by simp only [entCells, List.length_append, entCells_length r, List.length_cons, entVals]; simp; omega

theorem entCells_append : ∀ l m : List En, entCells (l ++ m) = entCells l ++ entCells m
  | [], _ => rfl
  | e :: r, m => by simp [entCells, entCells_append r m]

theorem entCells_at : ∀ (l : List En) (i r : Nat) (e : En), l[i]? = some e → r < 5 → (entCells l)[i * 5 + r]? = (entVals e)[r]?
  | [], i, r, e, h, _ => by simp at h
  | x :: t, 0, r, e, h, hr => by
    simp at h; subst h
    simp only [entCells]
    rw [List.getElem?_append_left (by simp [entVals]; omega)]
    simp
  | x :: t, i + 1, r, e, h, hr => by
    simp only [entCells]
    rw [List.getElem?_append_right (by simp [entVals]; omega)]
    have := entCells_at t i r e (by simpa using h) hr
    rw [← this]
    congr 1
    simp [entVals]
    omega

theorem entCells_one (l : List En) : ∀ u ∈ entCells l, u.oneCell' = true := by
  induction l with
  | nil => intro u hu; simp [entCells] at hu
  | cons e r ih =>
    intro u hu
    simp only [entCells, List.mem_append] at hu
    rcases hu with hu | hu
    · simp [entVals] at hu
      rcases hu with rfl | rfl | rfl | rfl | rfl <;> rfl
    · exact ih u hu

theorem infoEnt : (Try.prog.info? 31).map (fun i => (i.zero, i.size, i.bytes)) = some (some (.agg #[.string ⟨#[]⟩, .int .i64 0, .int .i64 0, .string ⟨#[]⟩, .bool false]), 5, 56) := by kernel_rfl

def nthE (l : List En) (i : Nat) : En := l.getD i ⟨⟨#[]⟩, 0, 0, ⟨#[]⟩, false⟩

theorem nthE_get {l : List En} {i : Nat} (h : i < l.length) : l[i]? = some (nthE l i) := by
  unfold nthE; rw [List.getD, List.getElem?_eq_getElem h]; rfl

def KeysOk (l : List En) : Prop := ∀ e ∈ l, e.k.size ≤ 140737488351232

/-- The cells of a part of an owned row. -/
theorem row_cells {w : World} {B g cap n : Nat} {l : List En} (h : w.ownsRow B 31 5 (.slice (some ⟨g, 0, none⟩) n cap) n (entCells l)) {i : Nat} (hi : i < l.length) :
    w.cell? ⟨g, i * 5, none⟩ = some (.string (nthE l i).k) ∧ w.cell? ⟨g, i * 5 + 1, none⟩ = some (.int .i64 (nthE l i).c) ∧ w.cell? ⟨g, i * 5 + 2, none⟩ = some (.int .i64 (nthE l i).n) ∧ w.cell? ⟨g, i * 5 + 3, none⟩ = some (.string (nthE l i).v) ∧ w.cell? ⟨g, i * 5 + 4, none⟩ = some (.bool (nthE l i).d) := by
  have hn : l.length = n := by have := h.1; rw [entCells_length] at this; omega
  have e := nthE_get hi
  have c : ∀ r, r < 5 → w.cell? ⟨g, i * 5 + r, none⟩ = (entVals (nthE l i))[r]? := fun r hr => by
    rw [h.cellAt (i * 5 + r) (by omega), entCells_at l i r _ e hr]
  exact ⟨by simpa [entVals] using c 0 (by omega), by simpa [entVals] using c 1 (by omega), by simpa [entVals] using c 2 (by omega), by simpa [entVals] using c 3 (by omega), by simpa [entVals] using c 4 (by omega)⟩

theorem row_max {w : World} {B g cap n : Nat} {xs : List Value} {e s : Nat} (h : w.ownsRow B e s (.slice (some ⟨g, 0, none⟩) n cap) n xs) : n ≤ cap ∧ cap ≤ maxLen := by
  rcases h.2 with ⟨h, _⟩ | ⟨g', cap', cur, h1, h2, h3, h4, h5, h6⟩
  · cases h
  · injection h1 with e1 e2 e3
    omega

/-- A part of an owned row as a list of entries in memory: m entries from entry o on. -/
theorem ents_of_row {w : World} {B g cap n : Nat} {l : List En} (h : w.ownsRow B 31 5 (.slice (some ⟨g, 0, none⟩) n cap) n (entCells l)) (hk : KeysOk l) {o m c : Nat} (hm : o + m ≤ n) (hc : m ≤ c) (hx : c ≤ maxLen) {a : Option Addr} (ha : m = 0 ∨ a = some ⟨g, o * 5, none⟩) :
    EntsIn w a m c (fun i => nthE l (o + i)) := by
  have hn : l.length = n := by have := h.1; rw [entCells_length] at this; omega
  refine ⟨hc, hx, ?_⟩
  rcases ha with ha | rfl
  · exact .inl ha
  · refine .inr ⟨g, o * 5, rfl, (h.lt g rfl).2, fun i hi => ⟨?_, hk _ ?_⟩⟩
    · have := row_cells h (i := o + i) (by omega)
      rw [show (o + i) * 5 = o * 5 + i * 5 from by omega] at this
      exact this
    · have := nthE_get (l := l) (i := o + i) (by omega)
      exact List.mem_of_getElem? this

/-- The cells of a list of entries that came in. -/
theorem ents_cells {w : World} {y : Addr} {len cap : Nat} {T : Nat → En} (h : EntsIn w (some y) len cap T) : ∀ j u, (entCells ((List.range len).map T))[j]? = some u → w.cell? (y.add j) = some u := by
  intro j u hj
  have hjl : j < len * 5 := by
    have := (List.getElem?_eq_some_iff.1 hj).1
    rw [entCells_length] at this
    simpa using this
  rcases h.2.2 with h0 | ⟨b, off, hy, hb, hc⟩
  · omega
  · injection hy with hy
    subst hy
    obtain ⟨⟨c0, c1, c2, c3, c4⟩, -⟩ := hc (j / 5) (by omega)
    have hat := entCells_at ((List.range len).map T) (j / 5) (j % 5) (T (j / 5)) (by rw [List.getElem?_map, List.getElem?_range (by omega)]; rfl) (by omega)
    rw [show j / 5 * 5 + j % 5 = j from by omega] at hat
    rw [hat] at hj
    rw [Addr.add_lit, show off + j = off + j / 5 * 5 + j % 5 from by omega]
    have hr : j % 5 < 5 := by omega
    generalize j % 5 = r at *
    match r, hr with
    | 0, _ => simp [entVals] at hj; subst hj; exact c0
    | 1, _ => simp [entVals] at hj; subst hj; exact c1
    | 2, _ => simp [entVals] at hj; subst hj; exact c2
    | 3, _ => simp [entVals] at hj; subst hj; exact c3
    | 4, _ => simp [entVals] at hj; subst hj; exact c4

/-- A copy of entries by append onto nothing, as one operation. -/
theorem op_append_copy {w : World} {o : Oper} {act : Act} {K : Act → World → Prop} {Q : Exit → Act → World → Prop} (s x : Operand)
    (ho : o.op = .call { callee := .builtin .append, args := #[s, x], argTypes := #[32, 32] })
    (hs : act.eval s = .slice none 0 0) (a : Option Addr) (len cap : Nat) (T : Nat → En) (hx : act.eval x = .slice a len cap) (hL : EntsIn w a len cap T)
    (hform : (a = none ∧ len = 0 ∧ cap = 0) ∨ ∃ y, a = some y) (hlen : len * 56 ≤ 140737488351232)
    (h : ∀ v' w', w'.ownsRow w.heap.size 31 5 v' len (entCells ((List.range len).map T)) → Below w.heap.size w w' → K (act.put o.dst v') w') : o.wp Try.prog act w K Q := by
  obtain ⟨i0, hi, hz0, hz1, hz2⟩ := info_parts infoEnt
  have hnil : w.ownsRow w.heap.size 31 5 (.slice none 0 0) 0 [] := World.ownsRow_nil _ _ _ _
  rcases hform with ⟨rfl, rfl, rfl⟩ | ⟨y, rfl⟩
  · have hrun := run_append_owned_none (P := Try.prog) (w := w) w.heap.size 32 o.type 31 i0 5 Try.underlying32 hi _ _ _ hnil
    unfold Oper.wp
    simp [execOp, ho, resolve, invoke, builtin, hs, hx, hrun, Result.andThen]
    exact h _ w hnil (Below.refl _ _)
  · refine wp_append_own w s x _ ho w.heap.size 31 i0 _ 5 56 Try.underlying32 hi hz0 hz1 hz2 rfl (by decide) _ _ _ hs hnil y len cap (entCells ((List.range len).map T)) hx (by rw [entCells_length]; simp) (ents_cells hL) (entCells_one _) (by unfold maxLen; omega) (by omega) (Nat.le_refl _) ?_
    intro v' w' ho' hg _
    have hbel : Below w.heap.size w w' := (Below.refl _ w).grown hg (Nat.le_refl _) (fun k e => by cases e)
    simp only [Nat.zero_add, List.nil_append] at ho'
    exact h v' w' ho' hbel

/-- One entry appended to an owned row, as one operation. -/
theorem op_append_ent {w : World} {o : Oper} {act : Act} {K : Act → World → Prop} {Q : Exit → Act → World → Prop} (s x : Operand)
    (ho : o.op = .call { callee := .builtin .append, args := #[s, x], argTypes := #[32, 32] })
    (B n : Nat) (v : Value) (l : List En) (hs : act.eval s = v) (hown : w.ownsRow B 31 5 v n (entCells l)) (b c : Nat) (e : En) (hx : act.eval x = .slice (some ⟨b, 0, none⟩) 1 c)
    (hb : w.heap[b]? = some (.cells #[.string e.k, .int .i64 e.c, .int .i64 e.n, .string e.v, .bool e.d] 31 (0, 0))) (hlen : n * 56 ≤ 140737488351232) (hB : B ≤ w.heap.size)
    (h : ∀ g cap w', w'.ownsRow B 31 5 (.slice (some ⟨g, 0, none⟩) (n + 1) cap) (n + 1) (entCells (l ++ [e])) → w.grownBy w' v.ownBlock → K (act.put o.dst (.slice (some ⟨g, 0, none⟩) (n + 1) cap)) w') : o.wp Try.prog act w K Q := by
  obtain ⟨i0, hi, hz0, hz1, hz2⟩ := info_parts infoEnt
  refine wp_append_own w s x _ ho B 31 i0 _ 5 56 Try.underlying32 hi hz0 hz1 hz2 rfl (by decide) _ _ _ hs hown ⟨b, 0, none⟩ 1 c (entVals e) hx rfl ?_ (fun u hu => entCells_one [e] u (by simpa [entCells] using hu)) (by unfold maxLen; omega) (by omega) hB ?_
  · exact World.news_of_block (cs := #[.string e.k, .int .i64 e.c, .int .i64 e.n, .string e.v, .bool e.d]) (t := 31) (fr := (0, 0)) hb
  · intro v' w' ho' hg _
    have e1 : entCells l ++ entVals e = entCells (l ++ [e]) := by rw [entCells_append]; simp [entCells]
    rw [e1] at ho'
    rcases ho'.2 with ⟨h1, h2⟩ | ⟨g, cap', cur, rfl, _⟩
    · omega
    · exact h g cap' w' ho' hg

theorem own_low {w : World} {base base' : Nat} {e : TypeId} {size : Nat} {v : Value} {n : Nat} {xs : List Value} (h : w.ownsRow base e size v n xs) (hb : base' ≤ base) : w.ownsRow base' e size v n xs := by
  refine ⟨h.1, ?_⟩
  rcases h.2 with h0 | ⟨g, cap, cur, h1, h2, h3⟩
  · exact .inl h0
  · exact .inr ⟨g, cap, cur, h1, Nat.le_trans hb h2, h3⟩

theorem own_on {w w' : World} {base : Nat} {e : TypeId} {size : Nat} {v : Value} {n : Nat} {xs : List Value} (h : w.ownsRow base e size v n xs) (hb : Below w.heap.size w w') : w'.ownsRow base e size v n xs := by
  refine ⟨h.1, ?_⟩
  rcases h.2 with h0 | ⟨g, cap, cur, h1, h2, h3, h4⟩
  · exact .inl h0
  · exact .inr ⟨g, cap, cur, h1, h2, blk_on h3 hb, h4⟩

end Go.Proofs.Ytfkdhambbpkmpaa

/-
  Best, the code's and the document's own, by contracts; the plain laws of the better of two.
  A list of entries in memory.
  Rows of entries that a call owns: their cells, copies by append, one entry appended.
  Plain mathematics of maps: which lists are maps, two of them side by side, the newest of both, what one lacks of the other.
  Plain: which lists a store can be loaded with, and what comes of loading them.
  Check: which lists are maps, the code's and the document's own.
  What MixTurned needs: a place among n; rows of entries that grow and shrink side by side; sums of lists.
  The document's Load: a store of its own, just if one can be made.
  Two maps side by side, step by step: plain; rows of pairs in memory.
  Pairs, the document's own: two maps side by side, as a list.
  Iterators that go over another iterator: what they may ask of the one who ranges over them, and a law for the loop.
  The iterator that goes through two maps side by side: what it hands to a loop's body.
  Entries and versions compared.
-/
import Derived.Test.YtpbkjffiohfkcaaDoorBp7
import Derived.Test.YtpbkjffiohfkcaaDoorBp1
import Derived.OwnWalk
import Derived.Laws.OwnMore
import Derived.Test.YtpbkjffiohfkcaaDoorBp8
import Derived.Deep.RegionHeld
import Derived.Maps.AppendAt
import Derived.Test.YtpbkjffiohfkcaaDoorBp4
import Derived.RangeFuncNested
import Derived.Laws.StructEq
namespace Go.Proofs.YtpbkjffiohfkcaaDoor
open Go.RowKit
set_option linter.unusedVariables false
/-- The better of the two. -/
def En.best (a b : En) : En := bif En.newer b a then b else a
/-- A block of five cells: what they are, and that they may be written. -/
theorem box5 {w : World} {i : Nat} {a b c d e : Value} {T : TypeId} (h : w.heap[i]? = some (.cells #[a, b, c, d, e] T (0, 0))) :
    (w.cell? ⟨i, 0, none⟩ = some a ∧ w.cell? ⟨i, 1, none⟩ = some b ∧ w.cell? ⟨i, 2, none⟩ = some c ∧ w.cell? ⟨i, 3, none⟩ = some d ∧ w.cell? ⟨i, 4, none⟩ = some e) ∧
    w.frozen? ⟨i, 0, none⟩ = false ∧ w.frozen? ⟨i, 1, none⟩ = false ∧ w.frozen? ⟨i, 2, none⟩ = false ∧ w.frozen? ⟨i, 3, none⟩ = false ∧ w.frozen? ⟨i, 4, none⟩ = false :=
  ⟨⟨by rw [cell_of_row _ _ 0 _ _ _ h]; rfl, by rw [cell_of_row _ _ 1 _ _ _ h]; rfl, by rw [cell_of_row _ _ 2 _ _ _ h]; rfl, by rw [cell_of_row _ _ 3 _ _ _ h]; rfl, by rw [cell_of_row _ _ 4 _ _ _ h]; rfl⟩,
    frozen_of_row _ _ 0 _ _ h, frozen_of_row _ _ 1 _ _ h, frozen_of_row _ _ 2 _ _ h, frozen_of_row _ _ 3 _ _ h, frozen_of_row _ _ 4 _ _ h⟩
end Go.Proofs.YtpbkjffiohfkcaaDoor
namespace Go.Proofs.YtpbkjffiohfkcaaDoor
open Go.RowKit
set_option linter.unusedVariables false
/-- A list of entries in memory, with keys of a size that memory has. -/
def EntsIn (w : World) (a : Option Addr) (len cap : Nat) (T : Nat → En) : Prop :=
  len ≤ cap ∧ cap ≤ maxLen ∧ (len = 0 ∨ ∃ b off, a = some ⟨b, off, none⟩ ∧ b < w.heap.size ∧ ∀ i, i < len →
    (w.cell? ⟨b, off + i * 5, none⟩ = some (.string (T i).k) ∧ w.cell? ⟨b, off + i * 5 + 1, none⟩ = some (.int .i64 (T i).c) ∧ w.cell? ⟨b, off + i * 5 + 2, none⟩ = some (.int .i64 (T i).n) ∧ w.cell? ⟨b, off + i * 5 + 3, none⟩ = some (.string (T i).v) ∧ w.cell? ⟨b, off + i * 5 + 4, none⟩ = some (.bool (T i).d)) ∧ (T i).k.size ≤ 140737488351232)
theorem EntsIn.keep {w w' : World} {a : Option Addr} {len cap : Nat} {T : Nat → En} (h : EntsIn w a len cap T) (b : Below w.heap.size w w') : EntsIn w' a len cap T := by
  obtain ⟨h1, h2, h3⟩ := h
  refine ⟨h1, h2, ?_⟩
  rcases h3 with h3 | ⟨bb, off, rfl, hb, hc⟩
  · exact .inl h3
  · refine .inr ⟨bb, off, rfl, by have := b.size; omega, fun i hi => ?_⟩
    obtain ⟨⟨c0, c1, c2, c3, c4⟩, hk⟩ := hc i hi
    exact ⟨⟨cell_in c0 b, cell_in c1 b, cell_in c2 b, cell_in c3 b, cell_in c4 b⟩, hk⟩
end Go.Proofs.YtpbkjffiohfkcaaDoor
namespace Go.Proofs.YtpbkjffiohfkcaaDoor
open Go.RowKit
set_option linter.unusedVariables false
def entVals (e : En) : List Value := [.string e.k, .int .i64 e.c, .int .i64 e.n, .string e.v, .bool e.d]
def entCells : List En → List Value
  | [] => []
  | e :: r => entVals e ++ entCells r
theorem entCells_length : ∀ l : List En, (entCells l).length = l.length * 5
  | [] => rfl
  | e :: r => by simp only [entCells, List.length_append, entCells_length r, List.length_cons, entVals]; simp; omega
theorem entCells_append : ∀ l m : List En, entCells (l ++ m) = entCells l ++ entCells m
  | [], _ => rfl
  | e :: r, m => by simp [entCells, entCells_append r m]
theorem entCells_at : ∀ (l : List En) (i r : Nat) (e : En), l[i]? = some e → r < 5 → (entCells l)[i * 5 + r]? = (entVals e)[r]?
  | [], i, r, e, h, _ => by simp at h
  | x :: t, 0, r, e, h, hr => by
    simp at h; subst h
    simp only [entCells]
    rw [List.getElem?_append_left (by simp [entVals]; omega)]
    simp
  | x :: t, i + 1, r, e, h, hr => by
    simp only [entCells]
    rw [List.getElem?_append_right (by simp [entVals]; omega)]
    have := entCells_at t i r e (by simpa using h) hr
    rw [← this]
    congr 1
    simp [entVals]
    omega
theorem entCells_one (l : List En) : ∀ u ∈ entCells l, u.oneCell' = true := by
  induction l with
  | nil => intro u hu; simp [entCells] at hu
  | cons e r ih =>
    intro u hu
    simp only [entCells, List.mem_append] at hu
    rcases hu with hu | hu
    · simp [entVals] at hu
      rcases hu with rfl | rfl | rfl | rfl | rfl <;> rfl
    · exact ih u hu
theorem infoEnt : (Tryd.prog.info? 54).map (fun i => (i.zero, i.size, i.bytes)) = some (some (.agg #[.string ⟨#[]⟩, .int .i64 0, .int .i64 0, .string ⟨#[]⟩, .bool false]), 5, 56) := by kernel_rfl
def nthE (l : List En) (i : Nat) : En := l.getD i ⟨⟨#[]⟩, 0, 0, ⟨#[]⟩, false⟩
theorem nthE_get {l : List En} {i : Nat} (h : i < l.length) : l[i]? = some (nthE l i) := by
  unfold nthE; rw [List.getD, List.getElem?_eq_getElem h]; rfl
def KeysOk (l : List En) : Prop := ∀ e ∈ l, e.k.size ≤ 140737488351232
/-- The cells of a part of an owned row. -/
theorem row_cells {w : World} {B g cap n : Nat} {l : List En} (h : w.ownsRow B 54 5 (.slice (some ⟨g, 0, none⟩) n cap) n (entCells l)) {i : Nat} (hi : i < l.length) :
    w.cell? ⟨g, i * 5, none⟩ = some (.string (nthE l i).k) ∧ w.cell? ⟨g, i * 5 + 1, none⟩ = some (.int .i64 (nthE l i).c) ∧ w.cell? ⟨g, i * 5 + 2, none⟩ = some (.int .i64 (nthE l i).n) ∧ w.cell? ⟨g, i * 5 + 3, none⟩ = some (.string (nthE l i).v) ∧ w.cell? ⟨g, i * 5 + 4, none⟩ = some (.bool (nthE l i).d) := by
  have hn : l.length = n := by have := h.1; rw [entCells_length] at this; omega
  have e := nthE_get hi
  have c : ∀ r, r < 5 → w.cell? ⟨g, i * 5 + r, none⟩ = (entVals (nthE l i))[r]? := fun r hr => by
    rw [h.cellAt (i * 5 + r) (by omega), entCells_at l i r _ e hr]
  exact ⟨by simpa [entVals] using c 0 (by omega), by simpa [entVals] using c 1 (by omega), by simpa [entVals] using c 2 (by omega), by simpa [entVals] using c 3 (by omega), by simpa [entVals] using c 4 (by omega)⟩
theorem row_max {w : World} {B g cap n : Nat} {xs : List Value} {e s : Nat} (h : w.ownsRow B e s (.slice (some ⟨g, 0, none⟩) n cap) n xs) : n ≤ cap ∧ cap ≤ maxLen := by
  rcases h.2 with ⟨h, _⟩ | ⟨g', cap', cur, h1, h2, h3, h4, h5, h6⟩
  · cases h
  · injection h1 with e1 e2 e3
    omega
/-- A part of an owned row as a list of entries in memory: m entries from entry o on. -/
theorem ents_of_row {w : World} {B g cap n : Nat} {l : List En} (h : w.ownsRow B 54 5 (.slice (some ⟨g, 0, none⟩) n cap) n (entCells l)) (hk : KeysOk l) {o m c : Nat} (hm : o + m ≤ n) (hc : m ≤ c) (hx : c ≤ maxLen) {a : Option Addr} (ha : m = 0 ∨ a = some ⟨g, o * 5, none⟩) :
    EntsIn w a m c (fun i => nthE l (o + i)) := by
  have hn : l.length = n := by have := h.1; rw [entCells_length] at this; omega
  refine ⟨hc, hx, ?_⟩
  rcases ha with ha | rfl
  · exact .inl ha
  · refine .inr ⟨g, o * 5, rfl, (h.lt g rfl).2, fun i hi => ⟨?_, hk _ ?_⟩⟩
    · have := row_cells h (i := o + i) (by omega)
      rw [show (o + i) * 5 = o * 5 + i * 5 from by omega] at this
      exact this
    · have := nthE_get (l := l) (i := o + i) (by omega)
      exact List.mem_of_getElem? this
/-- The cells of a list of entries that came in. -/
theorem ents_cells {w : World} {y : Addr} {len cap : Nat} {T : Nat → En} (h : EntsIn w (some y) len cap T) : ∀ j u, (entCells ((List.range len).map T))[j]? = some u → w.cell? (y.add j) = some u := by
  intro j u hj
  have hjl : j < len * 5 := by
    have := (List.getElem?_eq_some_iff.1 hj).1
    rw [entCells_length] at this
    simpa using this
  rcases h.2.2 with h0 | ⟨b, off, hy, hb, hc⟩
  · omega
  · injection hy with hy
    subst hy
    obtain ⟨⟨c0, c1, c2, c3, c4⟩, -⟩ := hc (j / 5) (by omega)
    have hat := entCells_at ((List.range len).map T) (j / 5) (j % 5) (T (j / 5)) (by rw [List.getElem?_map, List.getElem?_range (by omega)]; rfl) (by omega)
    rw [show j / 5 * 5 + j % 5 = j from by omega] at hat
    rw [hat] at hj
    rw [Addr.add_lit, show off + j = off + j / 5 * 5 + j % 5 from by omega]
    have hr : j % 5 < 5 := by omega
    generalize j % 5 = r at *
    match r, hr with
    | 0, _ => simp [entVals] at hj; subst hj; exact c0
    | 1, _ => simp [entVals] at hj; subst hj; exact c1
    | 2, _ => simp [entVals] at hj; subst hj; exact c2
    | 3, _ => simp [entVals] at hj; subst hj; exact c3
    | 4, _ => simp [entVals] at hj; subst hj; exact c4
/-- A copy of entries by append onto nothing, as one operation. -/
theorem op_append_copy {w : World} {o : Oper} {act : Act} {K : Act → World → Prop} {Q : Exit → Act → World → Prop} (s x : Operand)
    (ho : o.op = .call { callee := .builtin .append, args := #[s, x], argTypes := #[22, 22] })
    (hs : act.eval s = .slice none 0 0) (a : Option Addr) (len cap : Nat) (T : Nat → En) (hx : act.eval x = .slice a len cap) (hL : EntsIn w a len cap T)
    (hform : (a = none ∧ len = 0 ∧ cap = 0) ∨ ∃ y, a = some y) (hlen : len * 56 ≤ 140737488351232)
    (h : ∀ v' w', w'.ownsRow w.heap.size 54 5 v' len (entCells ((List.range len).map T)) → Below w.heap.size w w' → K (act.put o.dst v') w') : o.wp Tryd.prog act w K Q := by
  obtain ⟨i0, hi, hz0, hz1, hz2⟩ := info_parts infoEnt
  have hnil : w.ownsRow w.heap.size 54 5 (.slice none 0 0) 0 [] := World.ownsRow_nil _ _ _ _
  rcases hform with ⟨rfl, rfl, rfl⟩ | ⟨y, rfl⟩
  · have hrun := run_append_owned_none (P := Tryd.prog) (w := w) w.heap.size 22 o.type 54 i0 5 Tryd.underlying22 hi _ _ _ hnil
    unfold Oper.wp
    simp [execOp, ho, resolve, invoke, builtin, hs, hx, hrun, Result.andThen]
    exact h _ w hnil (Below.refl _ _)
  · refine wp_append_own w s x _ ho w.heap.size 54 i0 _ 5 56 Tryd.underlying22 hi hz0 hz1 hz2 rfl (by decide) _ _ _ hs hnil y len cap (entCells ((List.range len).map T)) hx (by rw [entCells_length]; simp) (ents_cells hL) (entCells_one _) (by unfold maxLen; omega) (by omega) (Nat.le_refl _) ?_
    intro v' w' ho' hg _
    have hbel : Below w.heap.size w w' := (Below.refl _ w).grown hg (Nat.le_refl _) (fun k e => by cases e)
    simp only [Nat.zero_add, List.nil_append] at ho'
    exact h v' w' ho' hbel
/-- One entry appended to an owned row, as one operation. -/
theorem op_append_ent {w : World} {o : Oper} {act : Act} {K : Act → World → Prop} {Q : Exit → Act → World → Prop} (s x : Operand)
    (ho : o.op = .call { callee := .builtin .append, args := #[s, x], argTypes := #[22, 22] })
    (B n : Nat) (v : Value) (l : List En) (hs : act.eval s = v) (hown : w.ownsRow B 54 5 v n (entCells l)) (b c : Nat) (e : En) (hx : act.eval x = .slice (some ⟨b, 0, none⟩) 1 c)
    (hb : w.heap[b]? = some (.cells #[.string e.k, .int .i64 e.c, .int .i64 e.n, .string e.v, .bool e.d] 54 (0, 0))) (hlen : n * 56 ≤ 140737488351232) (hB : B ≤ w.heap.size)
    (h : ∀ g cap w', w'.ownsRow B 54 5 (.slice (some ⟨g, 0, none⟩) (n + 1) cap) (n + 1) (entCells (l ++ [e])) → w.grownBy w' v.ownBlock → K (act.put o.dst (.slice (some ⟨g, 0, none⟩) (n + 1) cap)) w') : o.wp Tryd.prog act w K Q := by
  obtain ⟨i0, hi, hz0, hz1, hz2⟩ := info_parts infoEnt
  refine wp_append_own w s x _ ho B 54 i0 _ 5 56 Tryd.underlying22 hi hz0 hz1 hz2 rfl (by decide) _ _ _ hs hown ⟨b, 0, none⟩ 1 c (entVals e) hx rfl ?_ (fun u hu => entCells_one [e] u (by simpa [entCells] using hu)) (by unfold maxLen; omega) (by omega) hB ?_
  · exact World.news_of_block (cs := #[.string e.k, .int .i64 e.c, .int .i64 e.n, .string e.v, .bool e.d]) (t := 54) (fr := (0, 0)) hb
  · intro v' w' ho' hg _
    have e1 : entCells l ++ entVals e = entCells (l ++ [e]) := by rw [entCells_append]; simp [entCells]
    rw [e1] at ho'
    rcases ho'.2 with ⟨h1, h2⟩ | ⟨g, cap', cur, rfl, _⟩
    · omega
    · exact h g cap' w' ho' hg
theorem own_low {w : World} {base base' : Nat} {e : TypeId} {size : Nat} {v : Value} {n : Nat} {xs : List Value} (h : w.ownsRow base e size v n xs) (hb : base' ≤ base) : w.ownsRow base' e size v n xs := by
  refine ⟨h.1, ?_⟩
  rcases h.2 with h0 | ⟨g, cap, cur, h1, h2, h3⟩
  · exact .inl h0
  · exact .inr ⟨g, cap, cur, h1, Nat.le_trans hb h2, h3⟩
theorem own_on {w w' : World} {base : Nat} {e : TypeId} {size : Nat} {v : Value} {n : Nat} {xs : List Value} (h : w.ownsRow base e size v n xs) (hb : Below w.heap.size w w') : w'.ownsRow base e size v n xs := by
  refine ⟨h.1, ?_⟩
  rcases h.2 with h0 | ⟨g, cap, cur, h1, h2, h3, h4⟩
  · exact .inl h0
  · exact .inr ⟨g, cap, cur, h1, h2, blk_on h3 hb, h4⟩
end Go.Proofs.YtpbkjffiohfkcaaDoor
namespace Go.Proofs.YtpbkjffiohfkcaaDoor
open Go.RowKit
set_option linter.unusedVariables false
theorem key_one {l : List En} (h : RisesE l) {x y : En} (hx : x ∈ l) (hy : y ∈ l) (hk : x.k = y.k) : x = y := by
  induction l with
  | nil => simp at hx
  | cons z l ih =>
    unfold RisesE at h
    rw [List.pairwise_cons] at h
    rcases List.mem_cons.1 hx with e1 | hx2 <;> rcases List.mem_cons.1 hy with e2 | hy2
    · rw [e1, e2]
    · have := h.1 y hy2; rw [← e1, hk, kLt_irrefl] at this; cases this
    · have := h.1 x hx2; rw [← e2, hk, kLt_irrefl] at this; cases this
    · exact ih h.2 hx2 hy2
theorem rises_mem : ∀ {l m : List En}, RisesE l → RisesE m → (∀ x, x ∈ l ↔ x ∈ m) → l = m
  | [], [], _, _, _ => rfl
  | [], y :: m, _, _, h => by have := (h y).2 List.mem_cons_self; simp at this
  | x :: l, [], _, _, h => by have := (h x).1 List.mem_cons_self; simp at this
  | x :: l, y :: m, h1, h2, h => by
    have g1 := h1
    have g2 := h2
    unfold RisesE at h1 h2
    rw [List.pairwise_cons] at h1 h2
    have e : x = y := by
      rcases List.mem_cons.1 ((h x).1 List.mem_cons_self) with e | a
      · exact e
      · rcases List.mem_cons.1 ((h y).2 List.mem_cons_self) with e | b
        · exact e.symm
        · have := kLt_trans (h1.1 y b) (h2.1 x a)
          rw [kLt_irrefl] at this; cases this
    subst e
    rw [rises_mem (l := l) (m := m) h1.2 h2.2 (fun z => ?_)]
    constructor
    · intro hz
      rcases List.mem_cons.1 ((h z).1 (List.mem_cons_of_mem _ hz)) with rfl | a
      · have := h1.1 z hz; rw [kLt_irrefl] at this; cases this
      · exact a
    · intro hz
      rcases List.mem_cons.1 ((h z).2 (List.mem_cons_of_mem _ hz)) with rfl | a
      · have := h2.1 z hz; rw [kLt_irrefl] at this; cases this
      · exact a
/-- No entry. -/
def eZ : En := ⟨⟨#[]⟩, 0, 0, ⟨#[]⟩, false⟩
theorem chk_pos {e : En} (h : e.chk = 0) : 1 ≤ e.c ∧ e.k.size ≤ 16 ∧ 0 ≤ e.n := by
  unfold En.chk Vs.chk at h
  split at h
  · omega
  · split at h
    · omega
    · omega
/-- A list is a map. -/
structure MapL (l : List En) : Prop where
  rises : RisesE l
  chk : ∀ e ∈ l, e.chk = 0
theorem MapL.nil : MapL [] := ⟨List.Pairwise.nil, by simp⟩
theorem MapL.pos {l : List En} (h : MapL l) {e : En} (he : e ∈ l) : 1 ≤ e.c ∧ 0 ≤ e.n := ⟨(chk_pos (h.chk e he)).1, (chk_pos (h.chk e he)).2.2⟩
def firstE (T : Nat → En) (n : Nat) : List En := (List.range n).map T
theorem firstE_succ (T : Nat → En) (n : Nat) : firstE T (n + 1) = firstE T n ++ [T n] := by simp [firstE, List.range_succ]
theorem firstE_len (T : Nat → En) (n : Nat) : (firstE T n).length = n := by simp [firstE]
theorem firstE_get (T : Nat → En) {i n : Nat} (h : i < n) : (firstE T n)[i]? = some (T i) := by simp [firstE, h]
theorem firstE_nth (l : List En) : firstE (nthE l) l.length = l := by
  apply List.ext_getElem?
  intro i
  by_cases h : i < l.length
  · rw [firstE_get _ h, nthE_get h]
  · rw [List.getElem?_eq_none (by rw [firstE_len]; omega), List.getElem?_eq_none (by omega)]
theorem firstE_drop (T : Nat → En) {i n : Nat} (h : i < n) : (firstE T n).drop i = T i :: (firstE T n).drop (i + 1) := by
  have h1 := firstE_get T h
  rw [List.drop_eq_getElem_cons (by rw [firstE_len]; omega)]
  congr 1
  rw [List.getElem?_eq_getElem (by rw [firstE_len]; omega)] at h1
  injection h1
theorem firstE_end (T : Nat → En) {i n : Nat} (h : n ≤ i) : (firstE T n).drop i = [] := List.drop_eq_nil_of_le (by rw [firstE_len]; omega)
/-- What is wrong with entry i. -/
def ckAt (T : Nat → En) (i : Nat) : Int := if (T i).chk ≠ 0 then (T i).chk else if 0 < i ∧ kLt (T (i - 1)).k (T i).k = false then 90 else 0
/-- What is wrong first with n entries. -/
def ckN (T : Nat → En) : Nat → Int
  | 0 => 0
  | n + 1 => if ckN T n ≠ 0 then ckN T n else ckAt T n
theorem ckN_step {T : Nat → En} {n : Nat} (h : ckN T n = 0) : ckN T (n + 1) = ckAt T n := by unfold ckN; rw [if_neg (by simp [h])]
theorem ckN_stay {T : Nat → En} {n : Nat} (h : ckN T n ≠ 0) : ∀ m, n ≤ m → ckN T m = ckN T n := by
  intro m hm
  induction m with
  | zero => obtain rfl : n = 0 := by omega
            rfl
  | succ m ih =>
    by_cases e : n = m + 1
    · subst e; rfl
    · have := ih (by omega)
      show (if ckN T m ≠ 0 then ckN T m else ckAt T m) = _
      rw [if_pos (by rw [this]; exact h), this]
theorem ckN_bad {T : Nat → En} {i n : Nat} (h0 : ckN T i = 0) (hi : i < n) (h : ckAt T i ≠ 0) : ckN T n = ckAt T i := by
  have h1 := ckN_step h0
  rw [← h1] at h
  rw [ckN_stay h n (by omega), h1]
theorem ckAt_ent {T : Nat → En} {i : Nat} (h : (T i).chk ≠ 0) : ckAt T i = (T i).chk := by unfold ckAt; rw [if_pos h]
theorem ckAt_ord {T : Nat → En} {i : Nat} (h : (T i).chk = 0) (h2 : 0 < i ∧ kLt (T (i - 1)).k (T i).k = false) : ckAt T i = 90 := by unfold ckAt; rw [if_neg (by simp [h]), if_pos h2]
theorem ckAt_ok {T : Nat → En} {i : Nat} (h : (T i).chk = 0) (h2 : ¬ (0 < i ∧ kLt (T (i - 1)).k (T i).k = false)) : ckAt T i = 0 := by unfold ckAt; rw [if_neg (by simp [h]), if_neg h2]
theorem rises_snoc {l : List En} {x : En} : RisesE (l ++ [x]) ↔ RisesE l ∧ ∀ y ∈ l, kLt y.k x.k = true := by
  unfold RisesE
  rw [List.pairwise_append]
  simp
theorem ck_map {T : Nat → En} : ∀ n, ckN T n = 0 ↔ MapL (firstE T n)
  | 0 => ⟨fun _ => MapL.nil, fun _ => rfl⟩
  | n + 1 => by
    have ih := ck_map (T := T) n
    rw [firstE_succ]
    constructor
    · intro h
      have h0 : ckN T n = 0 := by
        apply Classical.byContradiction
        intro hn
        have := ckN_stay hn (n + 1) (by omega)
        rw [h] at this
        exact hn this.symm
      rw [ckN_step h0] at h
      have hm := ih.1 h0
      have hc : (T n).chk = 0 := by
        apply Classical.byContradiction
        intro hn
        rw [ckAt_ent hn] at h
        exact hn h
      have ho : ¬ (0 < n ∧ kLt (T (n - 1)).k (T n).k = false) := by
        intro hn
        rw [ckAt_ord hc hn] at h
        omega
      refine ⟨rises_snoc.2 ⟨hm.rises, ?_⟩, ?_⟩
      · intro y hy
        cases n with
        | zero => simp [firstE] at hy
        | succ m =>
          have hk : kLt (T m).k (T (m + 1)).k = true := by
            cases hq : kLt (T m).k (T (m + 1)).k
            · exact absurd ⟨by omega, hq⟩ ho
            · rfl
          rw [firstE_succ] at hy
          rcases List.mem_append.1 hy with hy | hy
          · have hr := hm.rises
            rw [firstE_succ] at hr
            exact kLt_trans ((rises_snoc.1 hr).2 y hy) hk
          · rw [List.mem_singleton] at hy
            subst hy
            exact hk
      · intro e he
        rcases List.mem_append.1 he with he | he
        · exact hm.chk e he
        · rw [List.mem_singleton] at he
          subst he
          exact hc
    · intro h
      have h0 : ckN T n = 0 := ih.2 ⟨(rises_snoc.1 h.rises).1, fun e he => h.chk e (List.mem_append_left _ he)⟩
      rw [ckN_step h0]
      refine ckAt_ok (h.chk _ (List.mem_append_right _ (List.mem_singleton.2 rfl))) ?_
      rintro ⟨hn, hk⟩
      have := (rises_snoc.1 h.rises).2 (T (n - 1)) (by simp only [firstE, List.mem_map, List.mem_range]; exact ⟨n - 1, by omega, rfl⟩)
      rw [hk] at this
      cases this
/-- Two maps side by side. -/
def prs : List En → List En → List (En × En)
  | [], [] => []
  | x :: r, [] => (x, eZ) :: prs r []
  | [], y :: s => (eZ, y) :: prs [] s
  | x :: r, y :: s => if kLt x.k y.k = true then (x, eZ) :: prs r (y :: s) else if kLt y.k x.k = true then (eZ, y) :: prs (x :: r) s else (x, y) :: prs r s
termination_by a b => a.length + b.length
theorem prs_nil : prs [] [] = [] := by unfold prs; rfl
theorem prs_left (x : En) (r : List En) : prs (x :: r) [] = (x, eZ) :: prs r [] := by rw [prs]
theorem prs_right (y : En) (s : List En) : prs [] (y :: s) = (eZ, y) :: prs [] s := by rw [prs]
theorem prs_lt {x y : En} (r s : List En) (h : kLt x.k y.k = true) : prs (x :: r) (y :: s) = (x, eZ) :: prs r (y :: s) := by rw [prs, if_pos h]
theorem prs_gt {x y : En} (r s : List En) (h : kLt x.k y.k = false) (h2 : kLt y.k x.k = true) : prs (x :: r) (y :: s) = (eZ, y) :: prs (x :: r) s := by rw [prs, if_neg (by simp [h]), if_pos h2]
theorem prs_eq {x y : En} (r s : List En) (h : kLt x.k y.k = false) (h2 : kLt y.k x.k = false) : prs (x :: r) (y :: s) = (x, y) :: prs r s := by rw [prs, if_neg (by simp [h]), if_neg (by simp [h2])]
/-- What is among the pairs. -/
def InP (a b : List En) (p : En × En) : Prop :=
  (p.1 ∈ a ∧ p.2 ∈ b ∧ p.1.k = p.2.k) ∨ (p.1 ∈ a ∧ p.2 = eZ ∧ ∀ y ∈ b, y.k ≠ p.1.k) ∨ (p.1 = eZ ∧ p.2 ∈ b ∧ ∀ x ∈ a, x.k ≠ p.2.k)
theorem rises_consE {x : En} {l : List En} : RisesE (x :: l) ↔ (∀ y ∈ l, kLt x.k y.k = true) ∧ RisesE l := by unfold RisesE; exact List.pairwise_cons
theorem rises_ne {x : En} {l : List En} (h : RisesE (x :: l)) : ∀ y ∈ l, y.k ≠ x.k := fun y hy e => kLt_ne ((rises_consE.1 h).1 y hy) e.symm
theorem low_ne {x y : En} {s : List En} (h : kLt x.k y.k = true) (hs : RisesE (y :: s)) : ∀ z ∈ y :: s, z.k ≠ x.k := by
  intro z hz e
  rcases List.mem_cons.1 hz with rfl | hz
  · exact kLt_ne h e.symm
  · exact kLt_ne (kLt_trans h ((rises_consE.1 hs).1 z hz)) e.symm
theorem mem_prs (a b : List En) : RisesE a → RisesE b → ∀ p, p ∈ prs a b ↔ InP a b p := by
  induction a, b using prs.induct with
  | case1 => intro _ _ p; simp [prs_nil, InP]
  | case2 x r ih =>
    intro ha hb p
    have i := ih (rises_consE.1 ha).2 hb p
    rw [prs_left, List.mem_cons, i]
    unfold InP
    constructor
    · rintro (rfl | ⟨h1, h2, h3⟩ | ⟨h1, h2, h3⟩ | ⟨h1, h2, h3⟩)
      · exact .inr (.inl ⟨List.mem_cons_self, rfl, by simp⟩)
      · simp at h2
      · exact .inr (.inl ⟨List.mem_cons_of_mem _ h1, h2, by simp⟩)
      · simp at h2
    · rintro (⟨h1, h2, h3⟩ | ⟨h1, h2, h3⟩ | ⟨h1, h2, h3⟩)
      · simp at h2
      · rcases List.mem_cons.1 h1 with e | h1
        · exact .inl (Prod.ext e h2)
        · exact .inr (.inr (.inl ⟨h1, h2, by simp⟩))
      · simp at h2
  | case3 y s ih =>
    intro ha hb p
    have i := ih ha (rises_consE.1 hb).2 p
    rw [prs_right, List.mem_cons, i]
    unfold InP
    constructor
    · rintro (rfl | ⟨h1, h2, h3⟩ | ⟨h1, h2, h3⟩ | ⟨h1, h2, h3⟩)
      · exact .inr (.inr ⟨rfl, List.mem_cons_self, by simp⟩)
      · simp at h1
      · simp at h1
      · exact .inr (.inr ⟨h1, List.mem_cons_of_mem _ h2, by simp⟩)
    · rintro (⟨h1, h2, h3⟩ | ⟨h1, h2, h3⟩ | ⟨h1, h2, h3⟩)
      · simp at h1
      · simp at h1
      · rcases List.mem_cons.1 h2 with e | h2
        · exact .inl (Prod.ext h1 e)
        · exact .inr (.inr (.inr ⟨h1, h2, by simp⟩))
  | case4 x r y s h ih =>
    intro ha hb p
    have i := ih (rises_consE.1 ha).2 hb p
    have f := low_ne h hb
    rw [prs_lt r s h, List.mem_cons, i]
    unfold InP
    constructor
    · rintro (rfl | ⟨h1, h2, h3⟩ | ⟨h1, h2, h3⟩ | ⟨h1, h2, h3⟩)
      · exact .inr (.inl ⟨List.mem_cons_self, rfl, f⟩)
      · exact .inl ⟨List.mem_cons_of_mem _ h1, h2, h3⟩
      · exact .inr (.inl ⟨List.mem_cons_of_mem _ h1, h2, h3⟩)
      · refine .inr (.inr ⟨h1, h2, fun z hz => ?_⟩)
        rcases List.mem_cons.1 hz with rfl | hz
        · exact fun e => f _ h2 e.symm
        · exact h3 z hz
    · rintro (⟨h1, h2, h3⟩ | ⟨h1, h2, h3⟩ | ⟨h1, h2, h3⟩)
      · rcases List.mem_cons.1 h1 with e | h1
        · exact absurd (e ▸ h3.symm) (f _ h2)
        · exact .inr (.inl ⟨h1, h2, h3⟩)
      · rcases List.mem_cons.1 h1 with e | h1
        · exact .inl (Prod.ext e h2)
        · exact .inr (.inr (.inl ⟨h1, h2, h3⟩))
      · exact .inr (.inr (.inr ⟨h1, h2, fun z hz => h3 z (List.mem_cons_of_mem _ hz)⟩))
  | case5 x r y s h h' ih =>
    intro ha hb p
    have i := ih ha (rises_consE.1 hb).2 p
    have f := low_ne h' ha
    rw [prs_gt r s (by simpa using h) h', List.mem_cons, i]
    unfold InP
    constructor
    · rintro (rfl | ⟨h1, h2, h3⟩ | ⟨h1, h2, h3⟩ | ⟨h1, h2, h3⟩)
      · exact .inr (.inr ⟨rfl, List.mem_cons_self, f⟩)
      · exact .inl ⟨h1, List.mem_cons_of_mem _ h2, h3⟩
      · refine .inr (.inl ⟨h1, h2, fun z hz => ?_⟩)
        rcases List.mem_cons.1 hz with rfl | hz
        · exact fun e => f _ h1 e.symm
        · exact h3 z hz
      · exact .inr (.inr ⟨h1, List.mem_cons_of_mem _ h2, h3⟩)
    · rintro (⟨h1, h2, h3⟩ | ⟨h1, h2, h3⟩ | ⟨h1, h2, h3⟩)
      · rcases List.mem_cons.1 h2 with e | h2
        · exact absurd (e ▸ h3) (f _ h1)
        · exact .inr (.inl ⟨h1, h2, h3⟩)
      · exact .inr (.inr (.inl ⟨h1, h2, fun z hz => h3 z (List.mem_cons_of_mem _ hz)⟩))
      · rcases List.mem_cons.1 h2 with e | h2
        · exact .inl (Prod.ext h1 e)
        · exact .inr (.inr (.inr ⟨h1, h2, h3⟩))
  | case6 x r y s h h' ih =>
    intro ha hb p
    have i := ih (rises_consE.1 ha).2 (rises_consE.1 hb).2 p
    have hk : x.k = y.k := kLt_total (by simpa using h) (by simpa using h')
    have f1 := rises_ne ha
    have f2 := rises_ne hb
    rw [prs_eq r s (by simpa using h) (by simpa using h'), List.mem_cons, i]
    unfold InP
    constructor
    · rintro (rfl | ⟨h1, h2, h3⟩ | ⟨h1, h2, h3⟩ | ⟨h1, h2, h3⟩)
      · exact .inl ⟨List.mem_cons_self, List.mem_cons_self, hk⟩
      · exact .inl ⟨List.mem_cons_of_mem _ h1, List.mem_cons_of_mem _ h2, h3⟩
      · refine .inr (.inl ⟨List.mem_cons_of_mem _ h1, h2, fun z hz => ?_⟩)
        rcases List.mem_cons.1 hz with rfl | hz
        · exact fun e => f1 _ h1 (e.symm.trans hk.symm)
        · exact h3 z hz
      · refine .inr (.inr ⟨h1, List.mem_cons_of_mem _ h2, fun z hz => ?_⟩)
        rcases List.mem_cons.1 hz with rfl | hz
        · exact fun e => f2 _ h2 (e.symm.trans hk)
        · exact h3 z hz
    · rintro (⟨h1, h2, h3⟩ | ⟨h1, h2, h3⟩ | ⟨h1, h2, h3⟩)
      · rcases List.mem_cons.1 h1 with e | h1 <;> rcases List.mem_cons.1 h2 with e2 | h2
        · exact .inl (Prod.ext e e2)
        · exact absurd (h3.symm.trans ((congrArg En.k e).trans hk)) (f2 _ h2)
        · exact absurd (h3.trans ((congrArg En.k e2).trans hk.symm)) (f1 _ h1)
        · exact .inr (.inl ⟨h1, h2, h3⟩)
      · rcases List.mem_cons.1 h1 with e | h1
        · exact absurd (hk.symm.trans (congrArg En.k e).symm) (h3 y List.mem_cons_self)
        · exact .inr (.inr (.inl ⟨h1, h2, fun z hz => h3 z (List.mem_cons_of_mem _ hz)⟩))
      · rcases List.mem_cons.1 h2 with e | h2
        · exact absurd (hk.trans (congrArg En.k e).symm) (h3 x List.mem_cons_self)
        · exact .inr (.inr (.inr ⟨h1, h2, fun z hz => h3 z (List.mem_cons_of_mem _ hz)⟩))
/-- The newest of both. -/
def mxL (a b : List En) : List En := (prs a b).map (fun p => En.best p.1 p.2)
theorem best_pick (x y : En) : (En.best x y = y ∧ En.newer y x = true) ∨ (En.best x y = x ∧ En.newer y x = false) := by
  unfold En.best
  cases En.newer y x
  · exact .inr ⟨rfl, rfl⟩
  · exact .inl ⟨rfl, rfl⟩
theorem newer_z {x : En} (h : 1 ≤ x.c ∧ 0 ≤ x.n) : En.newer eZ x = false ∧ En.newer x eZ = true := by
  constructor
  · rw [newer_not]; simp [eZ]; omega
  · rw [newer_iff]; simp [eZ]; omega
theorem best_zr {x : En} (h : 1 ≤ x.c ∧ 0 ≤ x.n) : En.best x eZ = x := by unfold En.best; rw [(newer_z h).1]; rfl
theorem best_zl {x : En} (h : 1 ≤ x.c ∧ 0 ≤ x.n) : En.best eZ x = x := by unfold En.best; rw [(newer_z h).2]; rfl
theorem mem_mx {a b : List En} (ha : MapL a) (hb : MapL b) (x : En) : x ∈ mxL a b ↔ (x ∈ a ∧ ∀ y ∈ b, y.k = x.k → En.newer y x = false) ∨ (x ∈ b ∧ ∀ y ∈ a, y.k = x.k → En.newer x y = true) := by
  unfold mxL
  rw [List.mem_map]
  constructor
  · rintro ⟨⟨p, q⟩, hp, rfl⟩
    rw [mem_prs a b ha.rises hb.rises] at hp
    rcases hp with ⟨h1, h2, h3⟩ | ⟨h1, h2, h3⟩ | ⟨h1, h2, h3⟩ <;> dsimp only at h1 h2 h3 ⊢
    · rcases best_pick p q with ⟨e, g⟩ | ⟨e, g⟩ <;> rw [e]
      · refine .inr ⟨h2, fun y hy hk => ?_⟩
        rw [key_one ha.rises hy h1 (hk.trans h3.symm)]
        exact g
      · refine .inl ⟨h1, fun y hy hk => ?_⟩
        rw [key_one hb.rises hy h2 (hk.trans h3)]
        exact g
    · subst h2
      rw [best_zr (ha.pos h1)]
      exact .inl ⟨h1, fun y hy hk => absurd hk (h3 y hy)⟩
    · subst h1
      rw [best_zl (hb.pos h2)]
      exact .inr ⟨h2, fun y hy hk => absurd hk (h3 y hy)⟩
  · rintro (⟨h1, h2⟩ | ⟨h1, h2⟩)
    · by_cases hq : ∃ y ∈ b, y.k = x.k
      · obtain ⟨y, hy, hk⟩ := hq
        refine ⟨(x, y), (mem_prs a b ha.rises hb.rises _).2 (.inl ⟨h1, hy, hk.symm⟩), ?_⟩
        show En.best x y = x
        unfold En.best
        rw [h2 y hy hk]
        rfl
      · exact ⟨(x, eZ), (mem_prs a b ha.rises hb.rises _).2 (.inr (.inl ⟨h1, rfl, fun y hy hk => hq ⟨y, hy, hk⟩⟩)), best_zr (ha.pos h1)⟩
    · by_cases hq : ∃ y ∈ a, y.k = x.k
      · obtain ⟨y, hy, hk⟩ := hq
        refine ⟨(y, x), (mem_prs a b ha.rises hb.rises _).2 (.inl ⟨hy, h1, hk⟩), ?_⟩
        show En.best y x = x
        unfold En.best
        rw [h2 y hy hk]
        rfl
      · exact ⟨(eZ, x), (mem_prs a b ha.rises hb.rises _).2 (.inr (.inr ⟨rfl, h1, fun y hy hk => hq ⟨y, hy, hk⟩⟩)), best_zl (hb.pos h1)⟩
theorem mx_src {a b : List En} (ha : MapL a) (hb : MapL b) {x : En} (h : x ∈ mxL a b) : x ∈ a ∨ x ∈ b := by
  rcases (mem_mx ha hb x).1 h with h | h
  · exact .inl h.1
  · exact .inr h.1
theorem mapL_tail {x : En} {l : List En} (h : MapL (x :: l)) : MapL l := ⟨(rises_consE.1 h.rises).2, fun e he => h.chk e (List.mem_cons_of_mem _ he)⟩
theorem mapL_sub {l m : List En} (h : MapL m) (s : l.Sublist m) : MapL l := ⟨List.Pairwise.sublist s h.rises, fun e he => h.chk e (s.subset he)⟩
theorem mx_rises (a b : List En) : MapL a → MapL b → RisesE (mxL a b) := by
  induction a, b using prs.induct with
  | case1 => intro _ _; unfold mxL; rw [prs_nil]; exact List.Pairwise.nil
  | case2 x r ih =>
    intro ha hb
    have i := ih (mapL_tail ha) hb
    have e : mxL (x :: r) [] = x :: mxL r [] := by unfold mxL; rw [prs_left, List.map_cons, best_zr (ha.pos List.mem_cons_self)]
    rw [e, rises_consE]
    refine ⟨fun y hy => ?_, i⟩
    rcases mx_src (mapL_tail ha) hb hy with h | h
    · exact (rises_consE.1 ha.rises).1 y h
    · simp at h
  | case3 y s ih =>
    intro ha hb
    have i := ih ha (mapL_tail hb)
    have e : mxL [] (y :: s) = y :: mxL [] s := by unfold mxL; rw [prs_right, List.map_cons, best_zl (hb.pos List.mem_cons_self)]
    rw [e, rises_consE]
    refine ⟨fun z hz => ?_, i⟩
    rcases mx_src ha (mapL_tail hb) hz with h | h
    · simp at h
    · exact (rises_consE.1 hb.rises).1 z h
  | case4 x r y s h ih =>
    intro ha hb
    have i := ih (mapL_tail ha) hb
    have e : mxL (x :: r) (y :: s) = x :: mxL r (y :: s) := by unfold mxL; rw [prs_lt r s h, List.map_cons, best_zr (ha.pos List.mem_cons_self)]
    rw [e, rises_consE]
    refine ⟨fun z hz => ?_, i⟩
    rcases mx_src (mapL_tail ha) hb hz with g | g
    · exact (rises_consE.1 ha.rises).1 z g
    · rcases List.mem_cons.1 g with rfl | g
      · exact h
      · exact kLt_trans h ((rises_consE.1 hb.rises).1 z g)
  | case5 x r y s h h' ih =>
    intro ha hb
    have i := ih ha (mapL_tail hb)
    have e : mxL (x :: r) (y :: s) = y :: mxL (x :: r) s := by unfold mxL; rw [prs_gt r s (by simpa using h) h', List.map_cons, best_zl (hb.pos List.mem_cons_self)]
    rw [e, rises_consE]
    refine ⟨fun z hz => ?_, i⟩
    rcases mx_src ha (mapL_tail hb) hz with g | g
    · rcases List.mem_cons.1 g with rfl | g
      · exact h'
      · exact kLt_trans h' ((rises_consE.1 ha.rises).1 z g)
    · exact (rises_consE.1 hb.rises).1 z g
  | case6 x r y s h h' ih =>
    intro ha hb
    have i := ih (mapL_tail ha) (mapL_tail hb)
    have hk : x.k = y.k := kLt_total (by simpa using h) (by simpa using h')
    have e : mxL (x :: r) (y :: s) = En.best x y :: mxL r s := by unfold mxL; rw [prs_eq r s (by simpa using h) (by simpa using h'), List.map_cons]
    have hb' : (En.best x y).k = x.k := by
      rcases best_pick x y with ⟨e, _⟩ | ⟨e, _⟩ <;> rw [e]
      exact hk.symm
    rw [e, rises_consE]
    refine ⟨fun z hz => ?_, i⟩
    rw [hb']
    rcases mx_src (mapL_tail ha) (mapL_tail hb) hz with g | g
    · exact (rises_consE.1 ha.rises).1 z g
    · rw [hk]; exact (rises_consE.1 hb.rises).1 z g
theorem mx_map {a b : List En} (ha : MapL a) (hb : MapL b) : MapL (mxL a b) :=
  ⟨mx_rises a b ha hb, fun e he => by rcases mx_src ha hb he with h | h; exact ha.chk e h; exact hb.chk e h⟩
/-- No two entries of one key and one version are unlike. -/
def CleanL (a b : List En) : Prop := ∀ x ∈ a, ∀ y ∈ b, x.k = y.k → x.c = y.c → x.n = y.n → x = y
theorem CleanL.symm {a b : List En} (h : CleanL a b) : CleanL b a := fun x hx y hy hk hc hn => (h y hy x hx hk.symm hc.symm hn.symm).symm
/-- The newest of what P says. -/
structure Nws (P : En → Prop) (l : List En) : Prop where
  map : MapL l
  src : ∀ y ∈ l, P y
  best : ∀ e, P e → ∃ y ∈ l, y.k = e.k ∧ En.newer e y = false
theorem Nws.one {P : En → Prop} {l m : List En} (h : Nws P l) (h' : Nws P m) (ho : ∀ x y, P x → P y → x.k = y.k → x.c = y.c → x.n = y.n → x = y) : l = m := by
  have one : ∀ {A B : List En}, Nws P A → Nws P B → ∀ x ∈ A, x ∈ B := by
    intro A B hA hB x hx
    obtain ⟨y, hy, hk, hn⟩ := hB.best x (hA.src x hx)
    obtain ⟨z, hz, hk2, hn2⟩ := hA.best y (hB.src y hy)
    obtain rfl := key_one hA.map.rises hz hx (hk2.trans hk)
    rw [newer_not] at hn hn2
    rw [ho z y (hA.src z hz) (hB.src y hy) hk2 (by omega) (by omega)]
    exact hy
  exact rises_mem h.map.rises h'.map.rises (fun x => ⟨one h h' x, one h' h x⟩)
theorem Nws.of {P P' : En → Prop} {l : List En} (h : Nws P l) (e : ∀ x, P x ↔ P' x) : Nws P' l := by
  have : P = P' := funext fun x => propext (e x)
  subst this
  exact h
theorem newer_self (x : En) : En.newer x x = false := by rw [newer_not]; omega
theorem Nws.list {l : List En} (h : MapL l) : Nws (fun x => x ∈ l) l := ⟨h, fun y hy => hy, fun e he => ⟨e, he, rfl, newer_self e⟩⟩
theorem newer_tr {x y z : En} (h : En.newer x y = false) (k : En.newer y z = false) : En.newer x z = false := by
  rw [newer_not] at *; omega
theorem newer_tot {x y : En} (h : En.newer x y = true) : En.newer y x = false := by
  rw [newer_iff] at h; rw [newer_not]; omega
theorem Nws.max {P Q : En → Prop} {a b : List En} (ha : Nws P a) (hb : Nws Q b) : Nws (fun x => P x ∨ Q x) (mxL a b) := by
  have up : ∀ e, (∃ y ∈ a, y.k = e.k ∧ En.newer e y = false) ∨ (∃ y ∈ b, y.k = e.k ∧ En.newer e y = false) → ∃ y ∈ mxL a b, y.k = e.k ∧ En.newer e y = false := by
    rintro e (⟨y, hy, hk, hn⟩ | ⟨y, hy, hk, hn⟩)
    · by_cases hq : ∃ z ∈ b, z.k = y.k ∧ En.newer z y = true
      · obtain ⟨z, hz, hzk, hzn⟩ := hq
        refine ⟨z, (mem_mx ha.map hb.map z).2 (.inr ⟨hz, fun u hu huk => ?_⟩), hzk.trans hk, newer_tr hn (newer_tot hzn)⟩
        rw [key_one ha.map.rises hu hy (huk.trans hzk)]
        exact hzn
      · refine ⟨y, (mem_mx ha.map hb.map y).2 (.inl ⟨hy, fun u hu huk => ?_⟩), hk, hn⟩
        cases hw : En.newer u y
        · rfl
        · exact absurd ⟨u, hu, huk, hw⟩ hq
    · by_cases hq : ∃ z ∈ a, z.k = y.k ∧ En.newer y z = false
      · obtain ⟨z, hz, hzk, hzn⟩ := hq
        refine ⟨z, (mem_mx ha.map hb.map z).2 (.inl ⟨hz, fun u hu huk => ?_⟩), hzk.trans hk, newer_tr hn hzn⟩
        rw [key_one hb.map.rises hu hy (huk.trans hzk)]
        exact hzn
      · refine ⟨y, (mem_mx ha.map hb.map y).2 (.inr ⟨hy, fun u hu huk => ?_⟩), hk, hn⟩
        cases hw : En.newer y u
        · exact absurd ⟨u, hu, huk, hw⟩ hq
        · rfl
  refine ⟨mx_map ha.map hb.map, fun y hy => ?_, ?_⟩
  · rcases mx_src ha.map hb.map hy with h | h
    · exact .inl (ha.src y h)
    · exact .inr (hb.src y h)
  · rintro e (he | he)
    · exact up e (.inl (ha.best e he))
    · exact up e (.inr (hb.best e he))
end Go.Proofs.YtpbkjffiohfkcaaDoor
namespace Go.Proofs.YtpbkjffiohfkcaaDoor
open Go.RowKit
set_option linter.unusedVariables false
/-- A store can be made of these. -/
structure LdOk (nd ck : Int) (l : List En) : Prop where
  nd : nodeB nd = true
  c0 : 0 ≤ ck
  c1 : ck ≤ 1099511627776
  len : l.length ≤ 256
  map : MapL l
  ver : ∀ e ∈ l, e.c ≤ ck
theorem insE_end (e : En) : ∀ l : List En, (∀ y ∈ l, kLt y.k e.k = true) → insE e l = l ++ [e]
  | [], _ => rfl
  | y :: l, h => by
    have h1 := h y List.mem_cons_self
    unfold insE
    rw [if_neg (by rw [kLt_asymm h1]; simp), if_pos h1, insE_end e l (fun z hz => h z (List.mem_cons_of_mem _ hz))]
    rfl
theorem first_sub (T : Nat → En) {m n : Nat} (h : m ≤ n) : (firstE T m).Sublist (firstE T n) := by
  unfold firstE
  exact (List.range_sublist.2 h).map T
theorem first_mem {T : Nat → En} {j n : Nat} (h : j < n) : T j ∈ firstE T n := by
  unfold firstE
  exact List.mem_map.2 ⟨j, List.mem_range.2 h, rfl⟩
theorem ld_step {T : Nat → En} {j len : Nat} (h : MapL (firstE T len)) (hj : j < len) : insE (T j) (firstE T j) = firstE T (j + 1) := by
  have h1 : MapL (firstE T (j + 1)) := mapL_sub h (first_sub T (by omega))
  have h2 := h1.rises
  rw [firstE_succ, rises_snoc] at h2
  rw [firstE_succ, insE_end (T j) _ h2.2]
theorem ckm_low {ck c : Int} (h : c ≤ ck) : ckm ck c = ck := by
  unfold ckm
  rw [if_neg (by omega)]
theorem key_small {e : En} (h : e.chk = 0) : e.k.size ≤ 140737488351232 := by
  have := (chk_pos h).2.1
  omega
end Go.Proofs.YtpbkjffiohfkcaaDoor
namespace Go.Proofs.YtpbkjffiohfkcaaDoor
open Go.RowKit
set_option linter.unusedVariables false
theorem chk_rising {T : Nat → En} {k : Nat} {q : Int} (hq : (T (k + 1)).chk = q) (h0 : q = 0) : ckAt T (k + 1) = bif kLt (T k).k (T (k + 1)).k then 0 else 90 := by
  subst h0
  cases h : kLt (T k).k (T (k + 1)).k
  · exact ckAt_ord hq ⟨by omega, h⟩
  · exact ckAt_ok hq (fun g => by have := g.2; rw [show k + 1 - 1 = k from rfl, h] at this; cases this)
theorem chk_first {T : Nat → En} {q : Int} (hq : (T 0).chk = q) (h0 : q = 0) : ckAt T 0 = 0 := ckAt_ok (hq.trans h0) (fun g => by have := g.1; omega)
/-- x <= y of two texts, by the order. -/
theorem leq_eq (x y : ByteArray) : (Op.bytesLess x.toList y.toList || x.toList == y.toList) = !kLt y x := by
  unfold kLt
  cases h1 : Op.bytesLess x.toList y.toList <;> cases h2 : Op.bytesLess y.toList x.toList
  · have e := L_total _ _ h1 h2
    simp [e]
  · have e : (x.toList == y.toList) = false := by
      rw [beq_eq_false_iff_ne]; intro e; rw [e, L_irrefl] at h2; cases h2
    simp [e]
  · simp
  · have := L_trans _ _ _ h1 h2
    rw [L_irrefl] at this
    cases this
theorem chk_of (t : En) (w : World) {q : Int} (h : t.chk = q) (F : Nat) (C : ∀ (k : ByteArray) (c n : Int) (v : ByteArray) (d : Bool) (w : World), Calls Tryd.prog F #[.agg #[.string k, .int .i64 c, .int .i64 n, .string v, .bool d]] w fun e w' => e = .returned (.int .i64 (En.chk ⟨k, c, n, v, d⟩)) ∧ Below w.heap.size w w') :
    Calls Tryd.prog F #[.agg #[.string t.k, .int .i64 t.c, .int .i64 t.n, .string t.v, .bool t.d]] w fun e w' => e = .returned (.int .i64 q) ∧ Below w.heap.size w w' := by
  subst h
  exact C t.k t.c t.n t.v t.d w
end Go.Proofs.YtpbkjffiohfkcaaDoor
namespace Go.Proofs.YtpbkjffiohfkcaaDoor
open Go.RowKit
set_option linter.unusedVariables false
/-- An owned row's slice, in letters. -/
theorem own_slice {w : World} {B : Nat} {e : TypeId} {s : Nat} {v : Value} {n : Nat} {xs : List Value} (h : w.ownsRow B e s v n xs) : ∃ a c, v = .slice a n c ∧ n ≤ c ∧ c ≤ maxLen ∧ ((a = none ∧ n = 0 ∧ c = 0) ∨ ∃ g, a = some ⟨g, 0, none⟩ ∧ B ≤ g) := by
  rcases h.2 with ⟨rfl, rfl⟩ | ⟨g, cap, cur, rfl, hb, _, hn, hm, _⟩
  · exact ⟨none, 0, rfl, Nat.le_refl _, Nat.zero_le _, .inl ⟨rfl, rfl, rfl⟩⟩
  · exact ⟨_, cap, rfl, hn, hm, .inr ⟨g, rfl, hb⟩⟩
end Go.Proofs.YtpbkjffiohfkcaaDoor
namespace Go.Proofs.YtpbkjffiohfkcaaDoor
open Go.RowKit
set_option linter.unusedVariables false
/-- A store of the document's: its block, and the row of its entries. -/
def DSt (w : World) (B db : Nat) (nd ck : Int) (l : List En) : Prop := ∃ v, w.heap[db]? = some (.cells #[.int .i64 nd, .int .i64 ck, v] 67 (0, 0)) ∧ w.ownsRow B 54 5 v l.length (entCells l)
theorem DSt.below {w w' : World} {B db : Nat} {nd ck : Int} {l : List En} (h : DSt w B db nd ck l) (b : Below w.heap.size w w') : DSt w' B db nd ck l := by
  obtain ⟨v, h1, h2⟩ := h
  exact ⟨v, blk_on h1 b, own_on h2 b⟩
/-- What Load says. -/
def LdSay (w : World) (nd ck : Int) (l : List En) (e : Ending) (w' : World) : Prop :=
  (LdOk nd ck l ∧ ∃ db, e = .returned (.tuple #[.pointer (some ⟨db, 0, none⟩), .int .i64 0]) ∧ w.heap.size ≤ db ∧ DSt w' w.heap.size db nd ck l) ∨ (¬ LdOk nd ck l ∧ ∃ c, c ≠ 0 ∧ e = .returned (.tuple #[.pointer none, .int .i64 c]))
theorem ldOk_of {nd ck : Int} {T : Nat → En} {len : Nat} (h1 : nodeB nd = true) (h3 : ¬ ck < 0) (h4 : ¬ 1099511627776 < ck) (h5 : ¬ (256 : Int) < (len : Int)) (hc : ckN T len = 0 ∧ ∀ i, i < len → (T i).c ≤ ck) : LdOk nd ck (firstE T len) :=
  ⟨h1, by omega, by omega, by rw [firstE_len]; omega, (ck_map len).1 hc.1, fun e he => by
    unfold firstE at he
    obtain ⟨i, hi, rfl⟩ := List.mem_map.1 he
    exact hc.2 i (List.mem_range.1 hi)⟩
set_option maxHeartbeats 3200000 in
set_option maxRecDepth 100000 in
theorem rload (nd ck : Int) (a : Option Addr) (len cap : Nat) (T : Nat → En) (w : World) (h : EntsIn w a len cap T) (hform : (a = none ∧ len = 0 ∧ cap = 0) ∨ ∃ y, a = some y) :
    Calls Tryd.prog 13 #[.int .i64 nd, .int .i64 ck, .slice a len cap] w fun e w' => Below w.heap.size w w' ∧ LdSay w nd ck (firstE T len) e w' := by
  have HE := aside h
  obtain ⟨hlc, hcm, -⟩ := h
  have hmx : (len : Int) ≤ 9223372036854775807 := by unfold maxLen at hcm; omega
  clear hlc hcm
  by_cases h1 : nd < 0
  · have HB := aside (node_no1 h1)
    go_enter Tryd.func13, Tryd.ntmps13
    go_wp2
    go_ret2
    exact ⟨Below.refl _ _, .inr ⟨fun k => by have := k.nd; first | (rw [HB.out] at this; cases this) | (simp only [firstE_len] at this; omega) | omega, _, by decide, rfl⟩⟩
  by_cases h2 : 8 ≤ nd
  · have HB := aside (node_no2 h2)
    go_enter Tryd.func13, Tryd.ntmps13
    go_wp2
    go_ret2
    exact ⟨Below.refl _ _, .inr ⟨fun k => by have := k.nd; first | (rw [HB.out] at this; cases this) | (simp only [firstE_len] at this; omega) | omega, _, by decide, rfl⟩⟩
  have HN := aside (node_yes h1 h2)
  by_cases h3 : ck < 0
  · have HB := aside h3
    go_enter Tryd.func13, Tryd.ntmps13
    go_wp2
    go_ret2
    exact ⟨Below.refl _ _, .inr ⟨fun k => by have := k.c0; first | (rw [HB.out] at this; cases this) | (simp only [firstE_len] at this; omega) | omega, _, by decide, rfl⟩⟩
  by_cases h4 : 1099511627776 < ck
  · have HB := aside h4
    go_enter Tryd.func13, Tryd.ntmps13
    go_wp2
    go_ret2
    exact ⟨Below.refl _ _, .inr ⟨fun k => by have := k.c1; first | (rw [HB.out] at this; cases this) | (simp only [firstE_len] at this; omega) | omega, _, by decide, rfl⟩⟩
  by_cases h5 : (256 : Int) < (len : Int)
  · have HB := aside h5
    go_enter Tryd.func13, Tryd.ntmps13
    go_wp2
    go_ret2
    exact ⟨Below.refl _ _, .inr ⟨fun k => by have := k.len; first | (rw [HB.out] at this; cases this) | (simp only [firstE_len] at this; omega) | omega, _, by decide, rfl⟩⟩
  have H3 := aside h3
  have H4 := aside h4
  have H5 := aside h5
  have HF := aside hform
  clear hform
  go_enter Tryd.func13, Tryd.ntmps13
  go_wp2
  clear h1 h2 h3 h4
  go_loopw [30] (fun i wr => ∃ j : Nat, i = .int .i64 (j : Int) ∧ j ≤ len ∧ Hid (ckN T j = 0 ∧ ∀ i, i < j → (T i).c ≤ ck) ∧ Below w.heap.size w wr) (fun i _ => len - (intOf i).toNat)
  case atStart => exact ⟨0, rfl, Nat.zero_le _, ⟨rfl, fun i hi => by omega⟩, Below.refl _ _⟩
  case round =>
    obtain ⟨j, rfl, hj, HC, hB⟩ := hrel
    have HB := aside hB
    clear hB
    by_cases hlt : (j : Int) < (len : Int)
    · have hE := HE.out.keep HB.out
      rcases hE.2.2 with h0 | ⟨b, off, rfl, hb, hc⟩
      · omega
      obtain ⟨⟨c0, c1, c2, c3, c4⟩, -⟩ := hc j (by omega)
      obtain ⟨q, hq⟩ : ∃ q, (T j).chk = q := ⟨_, rfl⟩
      have HQ := aside hq
      have hj0 : (0 : Int) ≤ (j : Int) := by omega
      have HCC := aside hc
      clear hc hE
      obtain ⟨t, ht⟩ : ∃ t, T j = t := ⟨_, rfl⟩
      have HT := aside ht
      rw [ht] at c0 c1 c2 c3 c4 hq
      have CQ := aside (fun W => chk_of t W hq _ ichkRef_any)
      clear ht hq
      by_cases hq0 : q = 0
      · subst hq0
        go_wp2_with fail
        refine (CQ.out _).mono ?_
        rintro e w1 ⟨rfl, b1⟩
        have B2 := aside (HB.out.trans ((bthen (bnew wr (.cells #[.string t.k, .int .i64 t.c, .int .i64 t.n, .string t.v, .bool t.d] 54)) b1).mono HB.out.size))
        have kb := blk_on (heap_alloc_new wr (.cells #[.string t.k, .int .i64 t.c, .int .i64 t.n, .string t.v, .bool t.d] 54)) b1
        obtain ⟨⟨e0, e1, -⟩, -⟩ := box5 kb
        generalize wr.heap.size = g at *
        have HC2 := aside (fun (i : Nat) (hi : i < len) => cell_in (HCC.out i hi).1.1 (bthen (bnew wr _) b1))
        clear b1 c0 c1 c2 c3 c4 kb CQ HCC
        cases j with
        | zero =>
          go_wp2_with fail
          refine wp_region_held_drew (S := fun W => Below w.heap.size w W ∧ W.cell? ⟨g, 1, none⟩ = some (.int .i64 t.c)) (by kernel_rfl) ⟨B2.out.drew, e1⟩ (fun hHeld => ?_)
          refine wpAnyH_take (i := 0) (v := ?_) rfl (by kernel_rfl) (by kernel_rfl) (by kernel_rfl) (fun _ _ _ h => h) (Or.inl ⟨by rfl, ?_⟩) (by assumption) ?_
          rotate_left
          · intro w hSw
            go_simp
            try with_reducible rfl
          simp only [Act.put, List.getElem_toArray, List.getElem_cons_zero, List.setIfInBounds_toArray, List.set_cons_zero, List.set_cons_succ]
          refine wpAnyH_take (i := 1) (v := ?_) rfl (by kernel_rfl) (by kernel_rfl) (by kernel_rfl) (fun _ _ _ h => h) (Or.inl ⟨by rfl, ?_⟩) (by assumption) ?_
          rotate_left
          · intro w hSw
            go_simp
            try with_reducible rfl
          simp only [Act.put, List.getElem_toArray, List.getElem_cons_zero, List.getElem_cons_succ, List.setIfInBounds_toArray, List.set_cons_zero, List.set_cons_succ]
          refine wpAnyH_take (i := 2) (v := ?_) rfl (by kernel_rfl) (by kernel_rfl) (by kernel_rfl) (fun _ _ _ h => h) (Or.inl ⟨by rfl, ?_⟩) (by assumption) ?_
          rotate_left
          · intro w hSw
            go_simp
            try with_reducible rfl
          simp only [Act.put, List.getElem_toArray, List.getElem_cons_zero, List.getElem_cons_succ, List.setIfInBounds_toArray, List.set_cons_zero, List.set_cons_succ]
          refine wpAnyH_take (i := 3) (v := undef) rfl (by kernel_rfl) (by kernel_rfl) (by kernel_rfl) (fun _ _ _ h => h) (Or.inr ⟨by rfl, rfl⟩) (by assumption) ?_
          simp only [Act.put, List.getElem_toArray, List.getElem_cons_zero, List.getElem_cons_succ, List.setIfInBounds_toArray, List.set_cons_zero, List.set_cons_succ]
          refine wpAnyH_take (i := 4) (v := undef) rfl (by kernel_rfl) (by kernel_rfl) (by kernel_rfl) (fun _ _ _ h => h) (Or.inr ⟨by rfl, rfl⟩) (by assumption) ?_
          simp only [Act.put, List.getElem_toArray, List.getElem_cons_zero, List.getElem_cons_succ, List.setIfInBounds_toArray, List.set_cons_zero, List.set_cons_succ]
          refine wpAnyH_take (i := 5) (v := undef) rfl (by kernel_rfl) (by kernel_rfl) (by kernel_rfl) (fun _ _ _ h => h) (Or.inr ⟨by rfl, rfl⟩) (by assumption) ?_
          simp only [Act.put, List.getElem_toArray, List.getElem_cons_zero, List.getElem_cons_succ, List.setIfInBounds_toArray, List.set_cons_zero, List.set_cons_succ]
          refine wpAnyH_take (i := 6) (v := undef) rfl (by kernel_rfl) (by kernel_rfl) (by kernel_rfl) (fun _ _ _ h => h) (Or.inr ⟨by rfl, rfl⟩) (by assumption) ?_
          simp only [Act.put, List.getElem_toArray, List.getElem_cons_zero, List.getElem_cons_succ, List.setIfInBounds_toArray, List.set_cons_zero, List.set_cons_succ]
          refine wpAnyH_take (i := 7) (v := undef) rfl (by kernel_rfl) (by kernel_rfl) (by kernel_rfl) (fun _ _ _ h => h) (Or.inr ⟨by rfl, rfl⟩) (by assumption) ?_
          simp only [Act.put, List.getElem_toArray, List.getElem_cons_zero, List.getElem_cons_succ, List.setIfInBounds_toArray, List.set_cons_zero, List.set_cons_succ]
          refine wpAnyH_take (i := 8) (v := undef) rfl (by kernel_rfl) (by kernel_rfl) (by kernel_rfl) (fun _ _ _ h => h) (Or.inr ⟨by rfl, rfl⟩) (by assumption) ?_
          simp only [Act.put, List.getElem_toArray, List.getElem_cons_zero, List.getElem_cons_succ, List.setIfInBounds_toArray, List.set_cons_zero, List.set_cons_succ]
          refine wpAnyH_take (i := 9) (v := undef) rfl (by kernel_rfl) (by kernel_rfl) (by kernel_rfl) (fun _ _ _ h => h) (Or.inr ⟨by rfl, rfl⟩) (by assumption) ?_
          simp only [Act.put, List.getElem_toArray, List.getElem_cons_zero, List.getElem_cons_succ, List.setIfInBounds_toArray, List.set_cons_zero, List.set_cons_succ]
          refine wpAnyH_take (i := 10) (v := undef) rfl (by kernel_rfl) (by kernel_rfl) (by kernel_rfl) (fun _ _ _ h => h) (Or.inr ⟨by rfl, rfl⟩) (by assumption) ?_
          simp only [Act.put, List.getElem_toArray, List.getElem_cons_zero, List.getElem_cons_succ, List.setIfInBounds_toArray, List.set_cons_zero, List.set_cons_succ]
          refine wpAnyH_take (i := 11) (v := undef) rfl (by kernel_rfl) (by kernel_rfl) (by kernel_rfl) (fun _ _ _ h => h) (Or.inr ⟨by rfl, rfl⟩) (by assumption) ?_
          simp only [Act.put, List.getElem_toArray, List.getElem_cons_zero, List.getElem_cons_succ, List.setIfInBounds_toArray, List.set_cons_zero, List.set_cons_succ]
          refine wpAnyH_take (i := 12) (v := ?_) rfl (by kernel_rfl) (by kernel_rfl) (by kernel_rfl) (fun _ _ _ h => h) (Or.inl ⟨by rfl, ?_⟩) (by assumption) ?_
          rotate_left
          · intro w hSw
            go_simp
            try with_reducible rfl
          simp only [Act.put, List.getElem_toArray, List.getElem_cons_zero, List.getElem_cons_succ, List.setIfInBounds_toArray, List.set_cons_zero, List.set_cons_succ]
          refine wpAnyH_done (by kernel_rfl) ?_ _
          have B3 := aside hHeld.1
          have C1 := aside hHeld.2
          clear hHeld e0 e1
          have cv := C1.out
          by_cases hv : ck < t.c
          · go_wp2
            go_ret2
            exact ⟨B3.out, .inr ⟨fun k9 => by have := k9.ver _ (first_mem (T := T) (j := 0) (by omega)); rw [HT.out] at this; omega, _, by decide, rfl⟩⟩
          · have HV := aside hv
            go_wp2
            go_roundw
            case rel => exact ⟨0 + 1, by go_num, by omega, ⟨(ckN_step HC.out.1).trans (chk_first HQ.out rfl), fun i hi => by rcases Nat.lt_succ_iff_lt_or_eq.1 hi with h9 | h9; exact HC.out.2 i h9; (subst h9; rw [HT.out]; have := HV.out; omega)⟩, B3.out⟩
            case measure => simp [intOf]; omega
        | succ k =>
          have d0 := HC2.out k (by omega)
          obtain ⟨u, hu⟩ : ∃ u, T k = u := ⟨_, rfl⟩
          have HU := aside hu
          rw [hu] at d0
          clear hu HC2
          have hk0 : (0 : Int) ≤ (k : Int) := by omega
          have hk1 : (k : Int) < (len : Int) := by omega
          have hk2 : (0 : Int) ≤ (k : Int) + 1 := by omega
          have hk3 : (0 : Int) < (k : Int) + 1 := by omega
          have hk4 : (k : Int) + 1 < (len : Int) := by omega
          have hw2 : IntKind.i64.wrap (k : Int) = (k : Int) := by simp only [IntKind.wrap_i64]; omega
          go_wp2_with fail
          refine wp_region_held_drew (S := fun W => Below w.heap.size w W ∧ W.cell? ⟨b, off + k * 5, none⟩ = some (.string u.k) ∧ W.cell? ⟨g, 0, none⟩ = some (.string t.k) ∧ W.cell? ⟨g, 1, none⟩ = some (.int .i64 t.c)) (by kernel_rfl) ⟨B2.out.drew, d0, e0, e1⟩ (fun hHeld => ?_)
          refine wpAnyH_take (i := 0) (v := ?_) rfl (by kernel_rfl) (by kernel_rfl) (by kernel_rfl) (fun _ _ _ h => h) (Or.inl ⟨by rfl, ?_⟩) (by assumption) ?_
          rotate_left
          · intro w hSw
            go_simp
            try with_reducible rfl
          simp only [Act.put, List.getElem_toArray, List.getElem_cons_zero, List.setIfInBounds_toArray, List.set_cons_zero, List.set_cons_succ]
          refine wpAnyH_take (i := 1) (v := ?_) rfl (by kernel_rfl) (by kernel_rfl) (by kernel_rfl) (fun _ _ _ h => h) (Or.inl ⟨by rfl, ?_⟩) (by assumption) ?_
          rotate_left
          · intro w hSw
            go_simp
            try with_reducible rfl
          simp only [Act.put, List.getElem_toArray, List.getElem_cons_zero, List.getElem_cons_succ, List.setIfInBounds_toArray, List.set_cons_zero, List.set_cons_succ]
          refine wpAnyH_take (i := 2) (v := ?_) rfl (by kernel_rfl) (by kernel_rfl) (by kernel_rfl) (fun _ _ _ h => h) (Or.inl ⟨by rfl, ?_⟩) (by assumption) ?_
          rotate_left
          · intro w hSw
            go_simp
            try with_reducible rfl
          simp only [Act.put, List.getElem_toArray, List.getElem_cons_zero, List.getElem_cons_succ, List.setIfInBounds_toArray, List.set_cons_zero, List.set_cons_succ]
          refine wpAnyH_take (i := 3) (v := ?_) rfl (by kernel_rfl) (by kernel_rfl) (by kernel_rfl) (fun _ _ _ h => h) (Or.inl ⟨by rfl, ?_⟩) (by assumption) ?_
          rotate_left
          · intro w hSw
            go_simp
            try with_reducible rfl
          simp only [Act.put, List.getElem_toArray, List.getElem_cons_zero, List.getElem_cons_succ, List.setIfInBounds_toArray, List.set_cons_zero, List.set_cons_succ]
          refine wpAnyH_take (i := 4) (v := ?_) rfl (by kernel_rfl) (by kernel_rfl) (by kernel_rfl) (fun _ _ _ h => h) (Or.inl ⟨by rfl, ?_⟩) (by assumption) ?_
          rotate_left
          · intro w hSw
            go_simp
            try with_reducible rfl
          simp only [Act.put, List.getElem_toArray, List.getElem_cons_zero, List.getElem_cons_succ, List.setIfInBounds_toArray, List.set_cons_zero, List.set_cons_succ]
          refine wpAnyH_take (i := 5) (v := ?_) rfl (by kernel_rfl) (by kernel_rfl) (by kernel_rfl) (fun _ _ _ h => h) (Or.inl ⟨by rfl, ?_⟩) (by assumption) ?_
          rotate_left
          · intro w hSw
            go_simp
            try with_reducible rfl
          simp only [Act.put, List.getElem_toArray, List.getElem_cons_zero, List.getElem_cons_succ, List.setIfInBounds_toArray, List.set_cons_zero, List.set_cons_succ]
          refine wpAnyH_take (i := 6) (v := ?_) rfl (by kernel_rfl) (by kernel_rfl) (by kernel_rfl) (fun _ _ _ h => h) (Or.inl ⟨by rfl, ?_⟩) (by assumption) ?_
          rotate_left
          · intro w hSw
            go_simp
            try with_reducible rfl
          simp only [Act.put, List.getElem_toArray, List.getElem_cons_zero, List.getElem_cons_succ, List.setIfInBounds_toArray, List.set_cons_zero, List.set_cons_succ]
          refine wpAnyH_take (i := 7) (v := ?_) rfl (by kernel_rfl) (by kernel_rfl) (by kernel_rfl) (fun _ _ _ h => h) (Or.inl ⟨by rfl, ?_⟩) (by assumption) ?_
          rotate_left
          · intro w hSw
            go_simp
            try with_reducible rfl
          simp only [Act.put, List.getElem_toArray, List.getElem_cons_zero, List.getElem_cons_succ, List.setIfInBounds_toArray, List.set_cons_zero, List.set_cons_succ]
          refine wpAnyH_take (i := 8) (v := ?_) rfl (by kernel_rfl) (by kernel_rfl) (by kernel_rfl) (fun _ _ _ h => h) (Or.inl ⟨by rfl, ?_⟩) (by assumption) ?_
          rotate_left
          · intro w hSw
            go_simp
            try with_reducible rfl
          simp only [Act.put, List.getElem_toArray, List.getElem_cons_zero, List.getElem_cons_succ, List.setIfInBounds_toArray, List.set_cons_zero, List.set_cons_succ]
          refine wpAnyH_take (i := 9) (v := ?_) rfl (by kernel_rfl) (by kernel_rfl) (by kernel_rfl) (fun _ _ _ h => h) (Or.inl ⟨by rfl, ?_⟩) (by assumption) ?_
          rotate_left
          · intro w hSw
            go_simp
            try with_reducible rfl
          simp only [Act.put, List.getElem_toArray, List.getElem_cons_zero, List.getElem_cons_succ, List.setIfInBounds_toArray, List.set_cons_zero, List.set_cons_succ]
          refine wpAnyH_take (i := 10) (v := ?_) rfl (by kernel_rfl) (by kernel_rfl) (by kernel_rfl) (fun _ _ _ h => h) (Or.inl ⟨by rfl, ?_⟩) (by assumption) ?_
          rotate_left
          · intro w hSw
            go_simp
            try with_reducible rfl
          simp only [Act.put, List.getElem_toArray, List.getElem_cons_zero, List.getElem_cons_succ, List.setIfInBounds_toArray, List.set_cons_zero, List.set_cons_succ]
          refine wpAnyH_take (i := 11) (v := .bool (!kLt u.k t.k)) rfl (by kernel_rfl) (by kernel_rfl) (by kernel_rfl) (fun _ _ _ h => h) (Or.inl ⟨by rfl, ?_⟩) (by assumption) ?_
          · intro w hSw
            go_simp
            exact leq_eq _ _
          simp only [Act.put, List.getElem_toArray, List.getElem_cons_zero, List.getElem_cons_succ, List.setIfInBounds_toArray, List.set_cons_zero, List.set_cons_succ]
          refine wpAnyH_take (i := 12) (v := ?_) rfl (by kernel_rfl) (by kernel_rfl) (by kernel_rfl) (fun _ _ _ h => h) (Or.inl ⟨by rfl, ?_⟩) (by assumption) ?_
          rotate_left
          · intro w hSw
            go_simp
            try with_reducible rfl
          simp only [Act.put, List.getElem_toArray, List.getElem_cons_zero, List.getElem_cons_succ, List.setIfInBounds_toArray, List.set_cons_zero, List.set_cons_succ]
          refine wpAnyH_done (by kernel_rfl) ?_ _
          have B3 := aside hHeld.1
          have C1 := aside hHeld.2.2.2
          clear hHeld hw2 e0 e1 d0
          have KQ := aside (chk_rising HQ.out rfl)
          rw [HU.out, HT.out] at KQ
          cases hkk : kLt u.k t.k
          · rw [hkk] at KQ
            go_wp2
            go_ret2
            refine ⟨B3.out, .inr ⟨fun k9 => ?_, _, by decide, rfl⟩⟩
            have h9 := (ck_map len).2 k9.map
            have := ckN_bad (n := len) HC.out.1 (by omega) (by rw [KQ.out]; decide)
            rw [KQ.out, h9] at this
            cases this
          · rw [hkk] at KQ
            have cv := C1.out
            by_cases hv : ck < t.c
            · go_wp2
              go_ret2
              exact ⟨B3.out, .inr ⟨fun k9 => by have := k9.ver _ (first_mem (T := T) (j := (k + 1)) (by omega)); rw [HT.out] at this; omega, _, by decide, rfl⟩⟩
            · have HV := aside hv
              go_wp2
              go_roundw
              case rel => exact ⟨(k + 1) + 1, by go_num, by omega, ⟨(ckN_step HC.out.1).trans KQ.out, fun i hi => by rcases Nat.lt_succ_iff_lt_or_eq.1 hi with h9 | h9; exact HC.out.2 i h9; (subst h9; rw [HT.out]; have := HV.out; omega)⟩, B3.out⟩
              case measure => simp [intOf]; omega
      · have HQ0 := aside hq0
        go_wp2_with fail
        refine (CQ.out _).mono ?_
        rintro e w1 ⟨rfl, b1⟩
        have B2 := aside (HB.out.trans ((bthen (bnew wr (.cells #[.string t.k, .int .i64 t.c, .int .i64 t.n, .string t.v, .bool t.d] 54)) b1).mono HB.out.size))
        clear b1 CQ c0 c1 c2 c3 c4
        have hqb : (q == 0) = false := by simpa using hq0
        go_wp2
        go_ret2
        exact ⟨B2.out, .inr ⟨fun k9 => HQ0.out (by have := k9.map.chk _ (first_mem (T := T) (j := j) (by omega)); rw [HQ.out] at this; exact this), _, HQ0.out, rfl⟩⟩
    · have hjl : j = len := by omega
      subst hjl
      have HEV := aside (HE.out.keep HB.out)
      go_wp2_with (at_builtin; refine wpList_plain rfl fun K hK => op_append_copy _ _ rfl (by rfl) a j cap T (by rfl) HEV.out HF.out (by have := H5.out; omega) ?_; intro v9 w3 own9 b9; refine hK _ _ ?_; refine Hid.out ?_)
      refine aside ?_
      obtain ⟨a9, c9, rfl, -, -, -⟩ := own_slice own9
      have O9 := aside own9
      have B9 := aside b9
      clear own9 b9 HEV
      go_wp2
      go_ret2
      refine ⟨(HB.out.trans (B9.out.mono HB.out.size)).alloc (by have := HB.out.size; have := B9.out.size; omega) _, .inl ⟨ldOk_of HN.out (by have := H3.out; omega) (by have := H4.out; omega) (by have := H5.out; omega) HC.out, w3.heap.size, rfl, by have := HB.out.size; have := B9.out.size; omega, _, heap_alloc_new w3 _, ?_⟩⟩
      rw [firstE_len]
      exact own_low (own_on O9.out (bnew w3 _)) HB.out.size
end Go.Proofs.YtpbkjffiohfkcaaDoor
namespace Go.Proofs.YtpbkjffiohfkcaaDoor
open Go.RowKit
set_option linter.unusedVariables false
/-- What came so far, with what is still to come, is all. -/
def PS (A : Nat → En) (la : Nat) (B : Nat → En) (lb : Nat) (pre : List (En × En)) (i j : Nat) : Prop :=
  pre ++ prs ((firstE A la).drop i) ((firstE B lb).drop j) = prs (firstE A la) (firstE B lb)
theorem PS.left {A : Nat → En} {la : Nat} {B : Nat → En} {lb : Nat} {pre : List (En × En)} {i j : Nat} (h : PS A la B lb pre i j) (hi : i < la) (hj : lb ≤ j) : PS A la B lb (pre ++ [(A i, eZ)]) (i + 1) j := by
  unfold PS at *
  rw [firstE_drop A hi, firstE_end B hj, prs_left] at h
  rw [firstE_end B hj, List.append_assoc]
  exact h
theorem PS.right {A : Nat → En} {la : Nat} {B : Nat → En} {lb : Nat} {pre : List (En × En)} {i j : Nat} (h : PS A la B lb pre i j) (hi : la ≤ i) (hj : j < lb) : PS A la B lb (pre ++ [(eZ, B j)]) i (j + 1) := by
  unfold PS at *
  rw [firstE_drop B hj, firstE_end A hi, prs_right] at h
  rw [firstE_end A hi, List.append_assoc]
  exact h
theorem PS.lt {A : Nat → En} {la : Nat} {B : Nat → En} {lb : Nat} {pre : List (En × En)} {i j : Nat} (h : PS A la B lb pre i j) (hi : i < la) (hj : j < lb) (hk : kLt (A i).k (B j).k = true) : PS A la B lb (pre ++ [(A i, eZ)]) (i + 1) j := by
  unfold PS at *
  rw [firstE_drop A hi, firstE_drop B hj, prs_lt _ _ hk, ← firstE_drop B hj] at h
  rw [List.append_assoc]
  exact h
theorem PS.gt {A : Nat → En} {la : Nat} {B : Nat → En} {lb : Nat} {pre : List (En × En)} {i j : Nat} (h : PS A la B lb pre i j) (hi : i < la) (hj : j < lb) (hk : kLt (A i).k (B j).k = false) (hk2 : kLt (B j).k (A i).k = true) : PS A la B lb (pre ++ [(eZ, B j)]) i (j + 1) := by
  unfold PS at *
  rw [firstE_drop A hi, firstE_drop B hj, prs_gt _ _ hk hk2, ← firstE_drop A hi] at h
  rw [List.append_assoc]
  exact h
theorem PS.eq {A : Nat → En} {la : Nat} {B : Nat → En} {lb : Nat} {pre : List (En × En)} {i j : Nat} (h : PS A la B lb pre i j) (hi : i < la) (hj : j < lb) (hk : kLt (A i).k (B j).k = false) (hk2 : kLt (B j).k (A i).k = false) : PS A la B lb (pre ++ [(A i, B j)]) (i + 1) (j + 1) := by
  unfold PS at *
  rw [firstE_drop A hi, firstE_drop B hj, prs_eq _ _ hk hk2] at h
  rw [List.append_assoc]
  exact h
theorem PS.done {A : Nat → En} {la : Nat} {B : Nat → En} {lb : Nat} {pre : List (En × En)} {i j : Nat} (h : PS A la B lb pre i j) (hi : la ≤ i) (hj : lb ≤ j) : pre = prs (firstE A la) (firstE B lb) := by
  unfold PS at h
  rw [firstE_end A hi, firstE_end B hj, prs_nil, List.append_nil] at h
  exact h
theorem PS.part {A : Nat → En} {la : Nat} {B : Nat → En} {lb : Nat} {pre : List (En × En)} {i j : Nat} (h : PS A la B lb pre i j) : ∃ r, pre ++ r = prs (firstE A la) (firstE B lb) := ⟨_, h⟩
end Go.Proofs.YtpbkjffiohfkcaaDoor
namespace Go.Proofs.YtpbkjffiohfkcaaDoor
open Go.RowKit
set_option linter.unusedVariables false
theorem ents_five {w : World} {b o len cap : Nat} {T : Nat → En} (h : EntsIn w (some ⟨b, o, none⟩) len cap T) {i : Nat} (hi : i < len) {x : En} (hx : T i = x) :
    w.cell? ⟨b, o + i * 5, none⟩ = some (.string x.k) ∧ w.cell? ⟨b, o + i * 5 + 1, none⟩ = some (.int .i64 x.c) ∧ w.cell? ⟨b, o + i * 5 + 2, none⟩ = some (.int .i64 x.n) ∧ w.cell? ⟨b, o + i * 5 + 3, none⟩ = some (.string x.v) ∧ w.cell? ⟨b, o + i * 5 + 4, none⟩ = some (.bool x.d) := by
  rcases h.2.2 with h0 | ⟨b', o', e, -, hc⟩
  · omega
  · cases e
    have := (hc i hi).1
    rw [hx] at this
    exact this
end Go.Proofs.YtpbkjffiohfkcaaDoor
namespace Go.Proofs.YtpbkjffiohfkcaaDoor
open Go.RowKit Go.Shelf
set_option linter.unusedVariables false
/-- What the iterator g does with whatever yield: it hands out all of S, or is stopped. The invariants may not mind what becomes of blocks that are no cells and were laid since. -/
def SeqO {α : Type} (P : Program) (g : Nat) (lb : Array Value) (encs : α → Array Value) (Kp : World → World → Prop) (S Sp : List α → Prop) (N : Nat) (w : World) : Prop :=
  ∀ (m l : Nat) (J Jx : List α → World → Prop) (W : World), Below w.heap.size w W → OwnFrom W.heap.size J → OwnFrom W.heap.size Jx →
    (∀ pre x W1, J pre W1 → pre.length < N → YieldAt Fence.wide m P l (encs x) W1 fun e W' =>
      KeepsFrom W.heap.size W1 W' ∧ ((e = .returned (.bool true) ∧ J (pre ++ [x]) W' ∧ Kp W1 W') ∨ (e = .returned (.bool false) ∧ Jx (pre ++ [x]) W'))) →
    J [] W →
    Calls P g (#[.func (.yield l) #[] #[]] ++ lb) W fun e W' => (∃ v, e = .returned v) ∧ ((∃ xs, S xs ∧ J xs W') ∨ (∃ pre, Sp pre ∧ Jx pre W'))
theorem ownFrom_abides {β : Type} {B : Nat} {J : β → World → Prop} (h : OwnFrom B J) : AbidesFrom B J := fun s W W' row hs hg hr =>
  h s W W' row hs hg (fun r e => by obtain ⟨h1, o, h2, h3⟩ := hr r e; exact ⟨h1, o, h2, Obj.not_cells_of_walk h3⟩)
theorem SeqO.of_stops {α : Type} {P : Program} {g : Nat} {lb : Array Value} {encs : α → Array Value} {Kp : World → World → Prop} {S Sp : List α → Prop} {N : Nat} {w : World} (h : ∀ n, SeqStopsK Fence.wide n P g lb encs Kp S Sp N w) : SeqO P g lb encs Kp S Sp N w :=
  fun m l J Jx W hW hJ hJx hY h0 => callsIn_wide.1 (h (m + 1) l J Jx W hW (ownFrom_abides hJ) (ownFrom_abides hJx) (fun pre x W1 hp hl => (hY pre x W1 hp hl).mono (fun _ _ h => h.2)) h0)
theorem SeqO.of_below {α : Type} {P : Program} {g : Nat} {lb : Array Value} {encs : α → Array Value} {Kp : World → World → Prop} {S Sp : List α → Prop} {N : Nat} {w w' : World} (h : SeqO P g lb encs Kp S Sp N w) (b : Below w.heap.size w w') : SeqO P g lb encs Kp S Sp N w' :=
  fun m l J Jx W hW => h m l J Jx W (b.trans (hW.mono b.size))
/-- The two blocks in which a loop keeps its own state. -/
structure Bk (B : Nat) (r : Loop) (W : World) : Prop where
  lp : W.heap[B + 1]? = some (.loop r)
  def_ : W.heap[B]? = some (.deferred (some []))
theorem Bk.put {B : Nat} {r : Loop} {W : World} (h : Bk B r W) (r' : Loop) : Bk B r' (W.putObj (B + 1) (.loop r')) :=
  ⟨World.putObj_heap_same (Array.getElem?_eq_some_iff.1 h.lp).1, (World.putObj_heap_other (by omega)).trans h.def_⟩
theorem Bk.kept {B : Nat} {r : Loop} {W W' : World} (h : Bk B r W) (k : KeepsFrom B W W') : Bk B r W' :=
  ⟨k.same _ _ (by omega) h.lp rfl, k.same _ _ (Nat.le_refl _) h.def_ rfl⟩
theorem Bk.grown {B C : Nat} {r : Loop} {W W' : World} {row : Option Nat} (h : Bk B r W) (hC : B + 2 ≤ C) (g : W.grownBy W' row) (hr : ∀ i, row = some i → C ≤ i) : Bk B r W' :=
  ⟨(g.block _ (Array.getElem?_eq_some_iff.1 h.lp).1 (fun e => by have := hr _ e.symm; omega)).trans h.lp, (g.block _ (Array.getElem?_eq_some_iff.1 h.def_).1 (fun e => by have := hr _ e.symm; omega)).trans h.def_⟩
theorem Bk.own {β : Type} {B C : Nat} {r : Loop} {I : β → World → Prop} (hI : OwnFrom B I) (hC : B + 2 ≤ C) : OwnFrom C (fun s W => I s W ∧ Bk B r W) :=
  fun s W W' row hs g hr => ⟨hI s W W' row hs.1 g (fun i e => ⟨by have := (hr i e).1; omega, (hr i e).2⟩), hs.2.grown hC g (fun i e => (hr i e).1)⟩
theorem keepsFrom_up {B C : Nat} {W W' : World} (h : KeepsFrom B W W') (hBC : B ≤ C) : KeepsFrom C W W' := ⟨h.size, fun k o hk => h.same k o (by omega)⟩
theorem keepsFrom_put (B l : Nat) (W : World) (o : Obj) (h : l < B) : KeepsFrom B W (W.putObj l o) := ⟨by simp, fun k o' hk e _ => (World.putObj_heap_other (by omega)).trans e⟩
/-- A loop over such an iterator. -/
theorem rangeO {P : Program} {n : Nat} {α : Type} {g : Operand} {ps : Array Tmp} {assign body : Code} {Q : Exit → Act → World → Prop} {a : Act} {w : World}
    {gf : Nat} {lb : Array Value} (hg : a.eval g = .func (.func gf) #[] lb) (eg : ∀ args w, (callFunc gf args).run P w = .ok (.enter gf args) w)
    {encs : α → Array Value} {Kp : World → World → Prop} {S Sp : List α → Prop} {N : Nat} {w0 : World} (hseq : SeqO P gf lb encs Kp S Sp N w0)
    (hKt : ∀ {A B C : World}, Kp A B → Kp B C → Kp A C) (hKb : ∀ (W : World) (l : Nat) (o o' : Obj), w.heap.size ≤ l → W.heap[l]? = some o → o.isCells = false → Kp W (W.putObj l o')) (hb0 : Below w0.heap.size w0 w) (hps : ∀ x, (encs x).size = ps.size)
    (I : List α → World → Prop) (Ix : Code → List α → World → Prop) (hI : OwnFrom w.heap.size I) (hIx : ∀ c, OwnFrom w.heap.size (Ix c)) (h0 : I [] w) (Ax : α → Act → World → Prop) (hAx : ∀ x a', OwnFrom w.heap.size (fun (_ : Unit) W => Ax x a' W))
    (hassign : ∀ (l : Nat) (pre : List α) (x : α) (W : World) (K : Act → World → Prop), I pre W → (∀ a' W', KeepsFrom w.heap.size W W' → Kp W W' → I pre W' → Ax x a' W' → K a' W') →
      assign.wpIn (Fence.wide.inRound l) (n - 1 - 1) P (Exit.then K (fun _ _ _ => False)) { tmps := (ps.zip (encs x)).foldl (fun t (p, v) => t.setIfInBounds p v) a.tmps, defers := [] } W)
    (hbody : ∀ (l : Nat) (pre : List α) (x : α) (a' : Act) (W : World), I pre W → Ax x a' W → pre.length < N → body.wpIn (Fence.wide.inRound l) (n - 1 - 1) P (ownPostG w.heap.size Kp I Ix (pre ++ [x]) W) a' W)
    (hdone : ∀ (D : Nat) (xs : List α) (W : World), w.heap.size ≤ D → S xs → I xs W → W.heap[D]? = some (.deferred (some [])) → Q .normal { a with defers := { target := .collected D, args := #[] } :: a.defers } W)
    (hstop : ∀ (D : Nat) (c : Code) (pre : List α) (W : World), w.heap.size ≤ D → Sp pre → Ix c pre W → W.heap[D]? = some (.deferred (some [])) → c.wpIn Fence.wide n P Q { a with defers := { target := .collected D, args := #[] } :: a.defers } W) :
    (Code.rangeFunc g ps assign body).wpIn Fence.wide n P Q a w := by
  refine wpIn_rangeFunc fun fn hfn => ?_
  obtain ⟨B, hB⟩ : ∃ B, w.heap.size = B := ⟨_, rfl⟩
  obtain ⟨R, hR⟩ : ∃ R : LoopState → Option Code → Loop, R = fun st pe => { state := st, pending := pe, fn, tmps := a.tmps, params := ps, assign, body, defers := B } := ⟨_, rfl⟩
  obtain ⟨V, hV⟩ : ∃ V, (w.alloc (.deferred (some []))).alloc (.loop (R .ready none)) = V := ⟨_, rfl⟩
  have bV : Below w.heap.size w V := by rw [← hV]; exact ((Below.refl _ w).alloc (Nat.le_refl _) _).alloc (by simp) _
  have sV : V.heap.size = B + 2 := by rw [← hV, ← hB]; simp
  have kV : Bk B (R .ready none) V := by
    rw [← hV, ← hB]
    have h2 := heap_alloc_new (w.alloc (.deferred (some []))) (.loop (R .ready none))
    rw [World.size_alloc] at h2
    exact ⟨h2, (Below.heap_alloc _ _ _ (by simp)).trans (heap_alloc_new w _)⟩
  have iV : I [] V := by rw [← hV]; exact hI.alloc _ (hI.alloc _ h0)
  rw [hB] at hI hIx hAx hKb hassign hbody hdone hstop
  refine ⟨B + 1, [{ target := .collected B, args := #[] }], V, { target := .fn (.func gf) lb, args := #[.func (.yield (B + 1)) #[] #[]] }, V, gf, #[.func (.yield (B + 1)) #[] #[]] ++ lb, V, ?_, ?_, fun _ _ => trivial, ?_, fun h => (by cases h), ?_⟩
  · rw [← hV, hR, ← hB]; exact run_enterLoop_outer _ _ _ _ _
  · simp only [resolve, hg]
    simp [go_sem]
  · simp [invoke, go_sem, eg]
  refine callsIn_wide.2 ?_
  -- the iterator is told: the invariant, and the loop's own blocks
  refine (hseq (n - 1 - 1) (B + 1) (fun pre W => I pre W ∧ Bk B (R .ready none) W) (fun pre W => ∃ c, Ix c pre W ∧ Bk B (R .done (some c)) W) V (hb0.trans (bV.mono hb0.size)) (Bk.own hI (by omega))
    (fun s W W' row hs g hr => by
      obtain ⟨c, h1, h2⟩ := hs
      exact ⟨c, Bk.own (hIx c) (Nat.le_of_eq sV.symm) s W W' row ⟨h1, h2⟩ g hr⟩) ?_ ⟨iV, kV⟩).mono ?_
  · rintro pre x W ⟨hi, hk⟩ hlen
    have hy := run_yield (P := P) (args := encs x) hk.lp (by rw [hR]; exact hps x)
    rw [hR] at hy
    refine ⟨fn, _, assign, body, hy, roundIn_of_wpIn hfn (hassign _ pre x W _ hi ?_)⟩
    intro a' Wa kf kp ia ax
    have ka := hk.kept kf
    refine ⟨_, run_beginRound ka.lp (by rw [hR]), ?_⟩
    have kb := ka.put { R .ready none with state := .busy }
    refine wpIn_mono (hbody _ pre x a' _ (hI.putObj _ ia (by omega) ka.lp rfl) ((hAx x a').putObj (s := ()) _ ax (by omega) ka.lp rfl) hlen) ?_
    have turn : ∀ (j : Option Code) (W3 : World), KeepsFrom B (Wa.putObj (B + 1) (.loop { R .ready none with state := .busy })) W3 →
        ∃ W4, KeepsFrom (B + 2) W W4 ∧ W4 = W3.putObj (B + 1) (.loop (R (if j.isNone then .ready else .done) j)) ∧ (Instr.endRound (B + 1) j).run P W3 = .ok (.bool j.isNone) W4 ∧ Bk B (R (if j.isNone then .ready else .done) j) W4 ∧ (∃ o, W3.heap[B + 1]? = some o ∧ o.isCells = false) := fun j W3 k3 => by
      have k4 := kb.kept k3
      have e := run_endRound (P := P) j k4.lp
      refine ⟨_, (((keepsFrom_up kf (by omega)).trans (keepsFrom_put _ _ _ _ (by omega))).trans (keepsFrom_up k3 (by omega))).trans (keepsFrom_put _ _ _ _ (by omega)), rfl, ?_, k4.put _, _, k4.lp, rfl⟩
      rw [hR] at e ⊢
      exact e
    have leave : ∀ (c : Code) (W3 : World), KeepsFrom B (Wa.putObj (B + 1) (.loop { R .ready none with state := .busy })) W3 → Ix c (pre ++ [x]) W3 →
        ∃ W4, KeepsFrom (B + 2) W W4 ∧ (Instr.endRound (B + 1) (some c)).run P W3 = .ok (.bool false) W4 ∧ ∃ c, Ix c (pre ++ [x]) W4 ∧ Bk B (R .done (some c)) W4 := fun c W3 k3 i3 => by
      obtain ⟨W4, kk, rfl, e, k4, o, h1, h2⟩ := turn (some c) W3 k3
      exact ⟨_, kk, e, c, (hIx c).putObj _ i3 (by omega) h1 h2, k4⟩
    rintro ex a3 W3 hp
    cases ex with
    | normal =>
      obtain ⟨W4, kk, rfl, e, k4, o, h1, h2⟩ := turn none W3 hp.1
      exact ⟨_, _, e, (by rw [sV]; exact kk), .inl ⟨rfl, ⟨hI.putObj _ hp.2.2 (by omega) h1 h2, k4⟩, hKt kp (hKt (hKt (hKb _ _ _ _ (by omega) ka.lp rfl) hp.2.1) (hKb _ _ _ _ (by omega) h1 h2))⟩⟩
    | ret => obtain ⟨W4, kk, e, i4⟩ := leave .ret W3 hp.1 hp.2; exact ⟨_, _, e, (by rw [sV]; exact kk), .inr ⟨rfl, i4⟩⟩
    | exit id => obtain ⟨W4, kk, e, i4⟩ := leave (.exit id) W3 hp.1 hp.2; exact ⟨_, _, e, (by rw [sV]; exact kk), .inr ⟨rfl, i4⟩⟩
    | goto t => obtain ⟨W4, kk, e, i4⟩ := leave (.goto t) W3 hp.1 hp.2; exact ⟨_, _, e, (by rw [sV]; exact kk), .inr ⟨rfl, i4⟩⟩
    | panic c => exact hp.elim
    | outgrown => exact hp.elim
  · rintro e W2 ⟨⟨v, rfl⟩, ⟨xs, hS, hi, hk⟩ | ⟨pre, hSp, c, hi, hk⟩⟩
    · refine ⟨none, _, ?_, hdone B xs _ (Nat.le_refl _) hS (hI.putObj (.loop { R .ready none with state := .exhausted }) hi (by omega) hk.lp rfl) (hk.put _).def_⟩
      have e := run_endLoop (P := P) hk.lp (by rw [hR]; simp)
      rw [hR] at e ⊢
      exact e
    · refine ⟨some c, _, ?_, hstop B c pre _ (Nat.le_refl _) hSp ((hIx c).putObj (.loop { R .done (some c) with state := .exhausted }) hi (by omega) hk.lp rfl) (hk.put _).def_⟩
      have e := run_endLoop (P := P) hk.lp (by rw [hR]; simp)
      rw [hR] at e ⊢
      exact e
end Go.Proofs.YtpbkjffiohfkcaaDoor
namespace Go.Proofs.YtpbkjffiohfkcaaDoor
open Go.RowKit Go.Shelf
set_option linter.unusedVariables false
attribute [local go_sem] Oper.semAt_some
theorem cells_ownM {A B : World} {row : Option Nat} {i : Nat} {cs : Array Value} {T : TypeId} (h : A.heap[i]? = some (.cells cs T (0, 0))) (hg : A.grownBy B row) (hr : ∀ r, row = some r → ∃ o : Obj, A.heap[r]? = some o ∧ o.isCells = false) : B.heap[i]? = some (.cells cs T (0, 0)) := (grownBy_keeps_cells hg hr h rfl).trans h
theorem EntsIn.own {w w' : World} {row : Option Nat} {a : Option Addr} {len cap : Nat} {T : Nat → En} (h : EntsIn w a len cap T) (hg : w.grownBy w' row) (hr : ∀ r, row = some r → ∃ o : Obj, w.heap[r]? = some o ∧ o.isCells = false) : EntsIn w' a len cap T := by
  obtain ⟨h1, h2, h3⟩ := h
  refine ⟨h1, h2, ?_⟩
  rcases h3 with h3 | ⟨bb, off, rfl, hb, hc⟩
  · exact .inl h3
  · refine .inr ⟨bb, off, rfl, by have := hg.size; omega, fun i hi => ?_⟩
    obtain ⟨⟨c0, c1, c2, c3, c4⟩, hk⟩ := hc i hi
    exact ⟨⟨cell_kept c0 hg hr, cell_kept c1 hg hr, cell_kept c2 hg hr, cell_kept c3 hg hr, cell_kept c4 hg hr⟩, hk⟩
/-- What the iterator reads. -/
structure SD (Ba Bb : Nat) (a : Option Addr) (la ca : Nat) (A : Nat → En) (b : Option Addr) (lb cb : Nat) (B : Nat → En) (W : World) : Prop where
  xa : W.heap[Ba]? = some (.cells #[.slice a la ca] 22 (0, 0))
  xb : W.heap[Bb]? = some (.cells #[.slice b lb cb] 22 (0, 0))
  ea : EntsIn W a la ca A
  eb : EntsIn W b lb cb B
theorem SD.own {Ba Bb : Nat} {a : Option Addr} {la ca : Nat} {A : Nat → En} {b : Option Addr} {lb cb : Nat} {B : Nat → En} {W W' : World} {row : Option Nat} (h : SD Ba Bb a la ca A b lb cb B W) (hg : W.grownBy W' row) (hr : ∀ r, row = some r → ∃ o : Obj, W.heap[r]? = some o ∧ o.isCells = false) : SD Ba Bb a la ca A b lb cb B W' :=
  ⟨cells_ownM h.xa hg hr, cells_ownM h.xb hg hr, h.ea.own hg hr, h.eb.own hg hr⟩
theorem SD.keep {Ba Bb : Nat} {a : Option Addr} {la ca : Nat} {A : Nat → En} {b : Option Addr} {lb cb : Nat} {B : Nat → En} {W W' : World} (h : SD Ba Bb a la ca A b lb cb B W) (bb : Below W.heap.size W W') : SD Ba Bb a la ca A b lb cb B W' :=
  ⟨blk_on h.xa bb, blk_on h.xb bb, h.ea.keep bb, h.eb.keep bb⟩
/-- What a round leaves to the iterator. -/
def KpS (Ba Bb : Nat) (a : Option Addr) (la ca : Nat) (A : Nat → En) (b : Option Addr) (lb cb : Nat) (B : Nat → En) (W W' : World) : Prop := SD Ba Bb a la ca A b lb cb B W → SD Ba Bb a la ca A b lb cb B W'
theorem KpS.t {Ba Bb : Nat} {a : Option Addr} {la ca : Nat} {A : Nat → En} {b : Option Addr} {lb cb : Nat} {B : Nat → En} {X Y Z : World} (h : KpS Ba Bb a la ca A b lb cb B X Y) (k : KpS Ba Bb a la ca A b lb cb B Y Z) : KpS Ba Bb a la ca A b lb cb B X Z := fun s => k (h s)
theorem KpS.b {Ba Bb : Nat} {a : Option Addr} {la ca : Nat} {A : Nat → En} {b : Option Addr} {lb cb : Nat} {B : Nat → En} (W : World) (l : Nat) (o o' : Obj) (h : W.heap[l]? = some o) (ho : o.isCells = false) : KpS Ba Bb a la ca A b lb cb B W (W.putObj l o') :=
  fun s => s.own (grownBy_putObj' W l o') (fun r e => by cases e; exact ⟨_, h, ho⟩)
theorem grown_below {W W' : World} (h : Below W.heap.size W W') : W.grownBy W' none := ⟨h.os, h.tape, h.output, h.size, fun k hk _ => h.block k hk⟩
end Go.Proofs.YtpbkjffiohfkcaaDoor
namespace Go.Proofs.YtpbkjffiohfkcaaDoor
open Go.RowKit
set_option linter.unusedVariables false
/-- Are two entries the same? -/
def enEqB (a b : En) : Bool := (a.k.toList == b.k.toList) && ((a.c == b.c && a.n == b.n) && ((a.v.toList == b.v.toList) && (a.d == b.d)))
theorem enEqB_iff (a b : En) : enEqB a b = true ↔ a = b := by
  obtain ⟨k, c, n, v, d⟩ := a
  obtain ⟨k', c', n', v', d'⟩ := b
  simp only [enEqB, Bool.and_eq_true, beq_iff_eq, En.mk.injEq]
  constructor
  · rintro ⟨h1, ⟨h2, h3⟩, h4, h5⟩
    exact ⟨toList_inj h1, h2, h3, toList_inj h4, h5⟩
  · rintro ⟨rfl, rfl, rfl, rfl, rfl⟩
    exact ⟨rfl, ⟨rfl, rfl⟩, rfl, rfl⟩
theorem enEqB_same (a : En) : enEqB a a = true := (enEqB_iff a a).2 rfl
theorem ent_in (a b : En) (w : World) : (Op.equalIn 10000 54 (.agg #[.string a.k, .int .i64 a.c, .int .i64 a.n, .string a.v, .bool a.d]) (.agg #[.string b.k, .int .i64 b.c, .int .i64 b.n, .string b.v, .bool b.d])).run Tryd.prog w = .ok (enEqB a b) w := by
  unfold enEqB
  rw [show (10000 : Nat) = 9999 + 1 from rfl]
  cases h1 : (a.k.toList == b.k.toList) <;> by_cases h2 : a.c = b.c <;> by_cases h5 : a.n = b.n <;> cases h3 : (a.v.toList == b.v.toList) <;> cases h4 : (a.d == b.d)
  all_goals
    go_simp
    try simp [h2, h5]
theorem ent_ne (a b : En) (w : World) : (binOp .neq 54 (.agg #[.string a.k, .int .i64 a.c, .int .i64 a.n, .string a.v, .bool a.d]) (.agg #[.string b.k, .int .i64 b.c, .int .i64 b.n, .string b.v, .bool b.d])).run Tryd.prog w = .ok (.bool (!enEqB a b)) w := by
  rw [run_neq_struct, ent_in]; rfl
end Go.Proofs.YtpbkjffiohfkcaaDoor

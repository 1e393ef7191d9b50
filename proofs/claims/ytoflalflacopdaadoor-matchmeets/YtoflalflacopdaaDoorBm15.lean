/-
  Rows of entries that a call owns: their cells, copies by append, one entry appended.
  Plain mathematics of maps: which lists are maps, two of them side by side, the newest of both, what one lacks of the other.
  Plain: which lists a store can be loaded with, and what comes of loading them.
  Entries taken one behind the other: plain.
  Where a key stands among entries: plain.
  What MixTurned needs: a place among n; rows of entries that grow and shrink side by side; sums of lists.
-/
import Derived.Test.YtoflalflacopdaaDoorBm14
import Derived.OwnWalk
import Derived.Laws.OwnMore
import Derived.Test.YtoflalflacopdaaDoorBm2
import Derived.Maps.AppendAt
namespace Go.Proofs.YtoflalflacopdaaDoor
open Go.RowKit
set_option linter.unusedVariables false
def entVals (e : En) : List Value := [.string e.k, .int .i64 e.c, .int .i64 e.n, .string e.v, .bool e.d]
def entCells : List En → List Value
  | [] => []
  | e :: r => entVals e ++ entCells r
theorem entCells_length : ∀ l : List En, (entCells l).length = l.length * 5
  | [] => rfl
  | e :: r => by simp only [entCells, List.length_append, entCells_length r, List.length_cons, entVals]; simp; omega
theorem entCells_append : ∀ l m : List En, entCells (l ++ m) = entCells l ++ entCells m
  | [], _ => rfl
  | e :: r, m => by simp [entCells, entCells_append r m]
theorem entCells_at : ∀ (l : List En) (i r : Nat) (e : En), l[i]? = some e → r < 5 → (entCells l)[i * 5 + r]? = (entVals e)[r]?
  | [], i, r, e, h, _ => by simp at h
  | x :: t, 0, r, e, h, hr => by
    simp at h; subst h
    simp only [entCells]
    rw [List.getElem?_append_left (by simp [entVals]; omega)]
    simp
  | x :: t, i + 1, r, e, h, hr => by
    simp only [entCells]
    rw [List.getElem?_append_right (by simp [entVals]; omega)]
    have := entCells_at t i r e (by simpa using h) hr
    rw [← this]
    congr 1
    simp [entVals]
    omega
theorem entCells_one (l : List En) : ∀ u ∈ entCells l, u.oneCell' = true := by
  induction l with
  | nil => intro u hu; simp [entCells] at hu
  | cons e r ih =>
    intro u hu
    simp only [entCells, List.mem_append] at hu
    rcases hu with hu | hu
    · simp [entVals] at hu
      rcases hu with rfl | rfl | rfl | rfl | rfl <;> rfl
    · exact ih u hu
theorem infoEnt : (Tryd.prog.info? 33).map (fun i => (i.zero, i.size, i.bytes)) = some (some (.agg #[.string ⟨#[]⟩, .int .i64 0, .int .i64 0, .string ⟨#[]⟩, .bool false]), 5, 56) := by kernel_rfl
def nthE (l : List En) (i : Nat) : En := l.getD i ⟨⟨#[]⟩, 0, 0, ⟨#[]⟩, false⟩
theorem nthE_get {l : List En} {i : Nat} (h : i < l.length) : l[i]? = some (nthE l i) := by
  unfold nthE; rw [List.getD, List.getElem?_eq_getElem h]; rfl
def KeysOk (l : List En) : Prop := ∀ e ∈ l, e.k.size ≤ 140737488351232
/-- The cells of a part of an owned row. -/
theorem row_cells {w : World} {B g cap n : Nat} {l : List En} (h : w.ownsRow B 33 5 (.slice (some ⟨g, 0, none⟩) n cap) n (entCells l)) {i : Nat} (hi : i < l.length) :
    w.cell? ⟨g, i * 5, none⟩ = some (.string (nthE l i).k) ∧ w.cell? ⟨g, i * 5 + 1, none⟩ = some (.int .i64 (nthE l i).c) ∧ w.cell? ⟨g, i * 5 + 2, none⟩ = some (.int .i64 (nthE l i).n) ∧ w.cell? ⟨g, i * 5 + 3, none⟩ = some (.string (nthE l i).v) ∧ w.cell? ⟨g, i * 5 + 4, none⟩ = some (.bool (nthE l i).d) := by
  have hn : l.length = n := by have := h.1; rw [entCells_length] at this; omega
  have e := nthE_get hi
  have c : ∀ r, r < 5 → w.cell? ⟨g, i * 5 + r, none⟩ = (entVals (nthE l i))[r]? := fun r hr => by
    rw [h.cellAt (i * 5 + r) (by omega), entCells_at l i r _ e hr]
  exact ⟨by simpa [entVals] using c 0 (by omega), by simpa [entVals] using c 1 (by omega), by simpa [entVals] using c 2 (by omega), by simpa [entVals] using c 3 (by omega), by simpa [entVals] using c 4 (by omega)⟩
theorem row_max {w : World} {B g cap n : Nat} {xs : List Value} {e s : Nat} (h : w.ownsRow B e s (.slice (some ⟨g, 0, none⟩) n cap) n xs) : n ≤ cap ∧ cap ≤ maxLen := by
  rcases h.2 with ⟨h, _⟩ | ⟨g', cap', cur, h1, h2, h3, h4, h5, h6⟩
  · cases h
  · injection h1 with e1 e2 e3
    omega
/-- A part of an owned row as a list of entries in memory: m entries from entry o on. -/
theorem ents_of_row {w : World} {B g cap n : Nat} {l : List En} (h : w.ownsRow B 33 5 (.slice (some ⟨g, 0, none⟩) n cap) n (entCells l)) (hk : KeysOk l) {o m c : Nat} (hm : o + m ≤ n) (hc : m ≤ c) (hx : c ≤ maxLen) {a : Option Addr} (ha : m = 0 ∨ a = some ⟨g, o * 5, none⟩) :
    EntsIn w a m c (fun i => nthE l (o + i)) := by
  have hn : l.length = n := by have := h.1; rw [entCells_length] at this; omega
  refine ⟨hc, hx, ?_⟩
  rcases ha with ha | rfl
  · exact .inl ha
  · refine .inr ⟨g, o * 5, rfl, (h.lt g rfl).2, fun i hi => ⟨?_, hk _ ?_⟩⟩
    · have := row_cells h (i := o + i) (by omega)
      rw [show (o + i) * 5 = o * 5 + i * 5 from by omega] at this
      exact this
    · have := nthE_get (l := l) (i := o + i) (by omega)
      exact List.mem_of_getElem? this
/-- The cells of a list of entries that came in. -/
theorem ents_cells {w : World} {y : Addr} {len cap : Nat} {T : Nat → En} (h : EntsIn w (some y) len cap T) : ∀ j u, (entCells ((List.range len).map T))[j]? = some u → w.cell? (y.add j) = some u := by
  intro j u hj
  have hjl : j < len * 5 := by
    have := (List.getElem?_eq_some_iff.1 hj).1
    rw [entCells_length] at this
    simpa using this
  rcases h.2.2 with h0 | ⟨b, off, hy, hb, hc⟩
  · omega
  · injection hy with hy
    subst hy
    obtain ⟨⟨c0, c1, c2, c3, c4⟩, -⟩ := hc (j / 5) (by omega)
    have hat := entCells_at ((List.range len).map T) (j / 5) (j % 5) (T (j / 5)) (by rw [List.getElem?_map, List.getElem?_range (by omega)]; rfl) (by omega)
    rw [show j / 5 * 5 + j % 5 = j from by omega] at hat
    rw [hat] at hj
    rw [Addr.add_lit, show off + j = off + j / 5 * 5 + j % 5 from by omega]
    have hr : j % 5 < 5 := by omega
    generalize j % 5 = r at *
    match r, hr with
    | 0, _ => simp [entVals] at hj; subst hj; exact c0
    | 1, _ => simp [entVals] at hj; subst hj; exact c1
    | 2, _ => simp [entVals] at hj; subst hj; exact c2
    | 3, _ => simp [entVals] at hj; subst hj; exact c3
    | 4, _ => simp [entVals] at hj; subst hj; exact c4
/-- A copy of entries by append onto nothing, as one operation. -/
theorem op_append_copy {w : World} {o : Oper} {act : Act} {K : Act → World → Prop} {Q : Exit → Act → World → Prop} (s x : Operand)
    (ho : o.op = .call { callee := .builtin .append, args := #[s, x], argTypes := #[22, 22] })
    (hs : act.eval s = .slice none 0 0) (a : Option Addr) (len cap : Nat) (T : Nat → En) (hx : act.eval x = .slice a len cap) (hL : EntsIn w a len cap T)
    (hform : (a = none ∧ len = 0 ∧ cap = 0) ∨ ∃ y, a = some y) (hlen : len * 56 ≤ 140737488351232)
    (h : ∀ v' w', w'.ownsRow w.heap.size 33 5 v' len (entCells ((List.range len).map T)) → Below w.heap.size w w' → K (act.put o.dst v') w') : o.wp Tryd.prog act w K Q := by
  obtain ⟨i0, hi, hz0, hz1, hz2⟩ := info_parts infoEnt
  have hnil : w.ownsRow w.heap.size 33 5 (.slice none 0 0) 0 [] := World.ownsRow_nil _ _ _ _
  rcases hform with ⟨rfl, rfl, rfl⟩ | ⟨y, rfl⟩
  · have hrun := run_append_owned_none (P := Tryd.prog) (w := w) w.heap.size 22 o.type 33 i0 5 Tryd.underlying22 hi _ _ _ hnil
    unfold Oper.wp
    simp [execOp, ho, resolve, invoke, builtin, hs, hx, hrun, Result.andThen]
    exact h _ w hnil (Below.refl _ _)
  · refine wp_append_own w s x _ ho w.heap.size 33 i0 _ 5 56 Tryd.underlying22 hi hz0 hz1 hz2 rfl (by decide) _ _ _ hs hnil y len cap (entCells ((List.range len).map T)) hx (by rw [entCells_length]; simp) (ents_cells hL) (entCells_one _) (by unfold maxLen; omega) (by omega) (Nat.le_refl _) ?_
    intro v' w' ho' hg _
    have hbel : Below w.heap.size w w' := (Below.refl _ w).grown hg (Nat.le_refl _) (fun k e => by cases e)
    simp only [Nat.zero_add, List.nil_append] at ho'
    exact h v' w' ho' hbel
/-- One entry appended to an owned row, as one operation. -/
theorem op_append_ent {w : World} {o : Oper} {act : Act} {K : Act → World → Prop} {Q : Exit → Act → World → Prop} (s x : Operand)
    (ho : o.op = .call { callee := .builtin .append, args := #[s, x], argTypes := #[22, 22] })
    (B n : Nat) (v : Value) (l : List En) (hs : act.eval s = v) (hown : w.ownsRow B 33 5 v n (entCells l)) (b c : Nat) (e : En) (hx : act.eval x = .slice (some ⟨b, 0, none⟩) 1 c)
    (hb : w.heap[b]? = some (.cells #[.string e.k, .int .i64 e.c, .int .i64 e.n, .string e.v, .bool e.d] 33 (0, 0))) (hlen : n * 56 ≤ 140737488351232) (hB : B ≤ w.heap.size)
    (h : ∀ g cap w', w'.ownsRow B 33 5 (.slice (some ⟨g, 0, none⟩) (n + 1) cap) (n + 1) (entCells (l ++ [e])) → w.grownBy w' v.ownBlock → K (act.put o.dst (.slice (some ⟨g, 0, none⟩) (n + 1) cap)) w') : o.wp Tryd.prog act w K Q := by
  obtain ⟨i0, hi, hz0, hz1, hz2⟩ := info_parts infoEnt
  refine wp_append_own w s x _ ho B 33 i0 _ 5 56 Tryd.underlying22 hi hz0 hz1 hz2 rfl (by decide) _ _ _ hs hown ⟨b, 0, none⟩ 1 c (entVals e) hx rfl ?_ (fun u hu => entCells_one [e] u (by simpa [entCells] using hu)) (by unfold maxLen; omega) (by omega) hB ?_
  · exact World.news_of_block (cs := #[.string e.k, .int .i64 e.c, .int .i64 e.n, .string e.v, .bool e.d]) (t := 33) (fr := (0, 0)) hb
  · intro v' w' ho' hg _
    have e1 : entCells l ++ entVals e = entCells (l ++ [e]) := by rw [entCells_append]; simp [entCells]
    rw [e1] at ho'
    rcases ho'.2 with ⟨h1, h2⟩ | ⟨g, cap', cur, rfl, _⟩
    · omega
    · exact h g cap' w' ho' hg
theorem own_low {w : World} {base base' : Nat} {e : TypeId} {size : Nat} {v : Value} {n : Nat} {xs : List Value} (h : w.ownsRow base e size v n xs) (hb : base' ≤ base) : w.ownsRow base' e size v n xs := by
  refine ⟨h.1, ?_⟩
  rcases h.2 with h0 | ⟨g, cap, cur, h1, h2, h3⟩
  · exact .inl h0
  · exact .inr ⟨g, cap, cur, h1, Nat.le_trans hb h2, h3⟩
theorem own_on {w w' : World} {base : Nat} {e : TypeId} {size : Nat} {v : Value} {n : Nat} {xs : List Value} (h : w.ownsRow base e size v n xs) (hb : Below w.heap.size w w') : w'.ownsRow base e size v n xs := by
  refine ⟨h.1, ?_⟩
  rcases h.2 with h0 | ⟨g, cap, cur, h1, h2, h3, h4⟩
  · exact .inl h0
  · exact .inr ⟨g, cap, cur, h1, h2, blk_on h3 hb, h4⟩
end Go.Proofs.YtoflalflacopdaaDoor
namespace Go.Proofs.YtoflalflacopdaaDoor
open Go.RowKit
set_option linter.unusedVariables false
theorem key_one {l : List En} (h : RisesE l) {x y : En} (hx : x ∈ l) (hy : y ∈ l) (hk : x.k = y.k) : x = y := by
  induction l with
  | nil => simp at hx
  | cons z l ih =>
    unfold RisesE at h
    rw [List.pairwise_cons] at h
    rcases List.mem_cons.1 hx with e1 | hx2 <;> rcases List.mem_cons.1 hy with e2 | hy2
    · rw [e1, e2]
    · have := h.1 y hy2; rw [← e1, hk, kLt_irrefl] at this; cases this
    · have := h.1 x hx2; rw [← e2, hk, kLt_irrefl] at this; cases this
    · exact ih h.2 hx2 hy2
theorem rises_mem : ∀ {l m : List En}, RisesE l → RisesE m → (∀ x, x ∈ l ↔ x ∈ m) → l = m
  | [], [], _, _, _ => rfl
  | [], y :: m, _, _, h => by have := (h y).2 List.mem_cons_self; simp at this
  | x :: l, [], _, _, h => by have := (h x).1 List.mem_cons_self; simp at this
  | x :: l, y :: m, h1, h2, h => by
    have g1 := h1
    have g2 := h2
    unfold RisesE at h1 h2
    rw [List.pairwise_cons] at h1 h2
    have e : x = y := by
      rcases List.mem_cons.1 ((h x).1 List.mem_cons_self) with e | a
      · exact e
      · rcases List.mem_cons.1 ((h y).2 List.mem_cons_self) with e | b
        · exact e.symm
        · have := kLt_trans (h1.1 y b) (h2.1 x a)
          rw [kLt_irrefl] at this; cases this
    subst e
    rw [rises_mem (l := l) (m := m) h1.2 h2.2 (fun z => ?_)]
    constructor
    · intro hz
      rcases List.mem_cons.1 ((h z).1 (List.mem_cons_of_mem _ hz)) with rfl | a
      · have := h1.1 z hz; rw [kLt_irrefl] at this; cases this
      · exact a
    · intro hz
      rcases List.mem_cons.1 ((h z).2 (List.mem_cons_of_mem _ hz)) with rfl | a
      · have := h2.1 z hz; rw [kLt_irrefl] at this; cases this
      · exact a
/-- No entry. -/
def eZ : En := ⟨⟨#[]⟩, 0, 0, ⟨#[]⟩, false⟩
theorem chk_pos {e : En} (h : e.chk = 0) : 1 ≤ e.c ∧ e.k.size ≤ 16 ∧ 0 ≤ e.n := by
  unfold En.chk Vs.chk at h
  split at h
  · omega
  · split at h
    · omega
    · omega
/-- A list is a map. -/
structure MapL (l : List En) : Prop where
  rises : RisesE l
  chk : ∀ e ∈ l, e.chk = 0
theorem MapL.nil : MapL [] := ⟨List.Pairwise.nil, by simp⟩
theorem MapL.pos {l : List En} (h : MapL l) {e : En} (he : e ∈ l) : 1 ≤ e.c ∧ 0 ≤ e.n := ⟨(chk_pos (h.chk e he)).1, (chk_pos (h.chk e he)).2.2⟩
def firstE (T : Nat → En) (n : Nat) : List En := (List.range n).map T
theorem firstE_succ (T : Nat → En) (n : Nat) : firstE T (n + 1) = firstE T n ++ [T n] := by simp [firstE, List.range_succ]
theorem firstE_len (T : Nat → En) (n : Nat) : (firstE T n).length = n := by simp [firstE]
theorem firstE_get (T : Nat → En) {i n : Nat} (h : i < n) : (firstE T n)[i]? = some (T i) := by simp [firstE, h]
theorem firstE_nth (l : List En) : firstE (nthE l) l.length = l := by
  apply List.ext_getElem?
  intro i
  by_cases h : i < l.length
  · rw [firstE_get _ h, nthE_get h]
  · rw [List.getElem?_eq_none (by rw [firstE_len]; omega), List.getElem?_eq_none (by omega)]
theorem firstE_drop (T : Nat → En) {i n : Nat} (h : i < n) : (firstE T n).drop i = T i :: (firstE T n).drop (i + 1) := by
  have h1 := firstE_get T h
  rw [List.drop_eq_getElem_cons (by rw [firstE_len]; omega)]
  congr 1
  rw [List.getElem?_eq_getElem (by rw [firstE_len]; omega)] at h1
  injection h1
theorem firstE_end (T : Nat → En) {i n : Nat} (h : n ≤ i) : (firstE T n).drop i = [] := List.drop_eq_nil_of_le (by rw [firstE_len]; omega)
/-- What is wrong with entry i. -/
def ckAt (T : Nat → En) (i : Nat) : Int := if (T i).chk ≠ 0 then (T i).chk else if 0 < i ∧ kLt (T (i - 1)).k (T i).k = false then 90 else 0
/-- What is wrong first with n entries. -/
def ckN (T : Nat → En) : Nat → Int
  | 0 => 0
  | n + 1 => if ckN T n ≠ 0 then ckN T n else ckAt T n
theorem ckN_step {T : Nat → En} {n : Nat} (h : ckN T n = 0) : ckN T (n + 1) = ckAt T n := by unfold ckN; rw [if_neg (by simp [h])]
theorem ckN_stay {T : Nat → En} {n : Nat} (h : ckN T n ≠ 0) : ∀ m, n ≤ m → ckN T m = ckN T n := by
  intro m hm
  induction m with
  | zero => obtain rfl : n = 0 := by omega
            rfl
  | succ m ih =>
    by_cases e : n = m + 1
    · subst e; rfl
    · have := ih (by omega)
      show (if ckN T m ≠ 0 then ckN T m else ckAt T m) = _
      rw [if_pos (by rw [this]; exact h), this]
theorem ckN_bad {T : Nat → En} {i n : Nat} (h0 : ckN T i = 0) (hi : i < n) (h : ckAt T i ≠ 0) : ckN T n = ckAt T i := by
  have h1 := ckN_step h0
  rw [← h1] at h
  rw [ckN_stay h n (by omega), h1]
theorem ckAt_ent {T : Nat → En} {i : Nat} (h : (T i).chk ≠ 0) : ckAt T i = (T i).chk := by unfold ckAt; rw [if_pos h]
theorem ckAt_ord {T : Nat → En} {i : Nat} (h : (T i).chk = 0) (h2 : 0 < i ∧ kLt (T (i - 1)).k (T i).k = false) : ckAt T i = 90 := by unfold ckAt; rw [if_neg (by simp [h]), if_pos h2]
theorem ckAt_ok {T : Nat → En} {i : Nat} (h : (T i).chk = 0) (h2 : ¬ (0 < i ∧ kLt (T (i - 1)).k (T i).k = false)) : ckAt T i = 0 := by unfold ckAt; rw [if_neg (by simp [h]), if_neg h2]
theorem rises_snoc {l : List En} {x : En} : RisesE (l ++ [x]) ↔ RisesE l ∧ ∀ y ∈ l, kLt y.k x.k = true := by
  unfold RisesE
  rw [List.pairwise_append]
  simp
theorem ck_map {T : Nat → En} : ∀ n, ckN T n = 0 ↔ MapL (firstE T n)
  | 0 => ⟨fun _ => MapL.nil, fun _ => rfl⟩
  | n + 1 => by
    have ih := ck_map (T := T) n
    rw [firstE_succ]
    constructor
    · intro h
      have h0 : ckN T n = 0 := by
        apply Classical.byContradiction
        intro hn
        have := ckN_stay hn (n + 1) (by omega)
        rw [h] at this
        exact hn this.symm
      rw [ckN_step h0] at h
      have hm := ih.1 h0
      have hc : (T n).chk = 0 := by
        apply Classical.byContradiction
        intro hn
        rw [ckAt_ent hn] at h
        exact hn h
      have ho : ¬ (0 < n ∧ kLt (T (n - 1)).k (T n).k = false) := by
        intro hn
        rw [ckAt_ord hc hn] at h
        omega
      refine ⟨rises_snoc.2 ⟨hm.rises, ?_⟩, ?_⟩
      · intro y hy
        cases n with
        | zero => simp [firstE] at hy
        | succ m =>
          have hk : kLt (T m).k (T (m + 1)).k = true := by
            cases hq : kLt (T m).k (T (m + 1)).k
            · exact absurd ⟨by omega, hq⟩ ho
            · rfl
          rw [firstE_succ] at hy
          rcases List.mem_append.1 hy with hy | hy
          · have hr := hm.rises
            rw [firstE_succ] at hr
            exact kLt_trans ((rises_snoc.1 hr).2 y hy) hk
          · rw [List.mem_singleton] at hy
            subst hy
            exact hk
      · intro e he
        rcases List.mem_append.1 he with he | he
        · exact hm.chk e he
        · rw [List.mem_singleton] at he
          subst he
          exact hc
    · intro h
      have h0 : ckN T n = 0 := ih.2 ⟨(rises_snoc.1 h.rises).1, fun e he => h.chk e (List.mem_append_left _ he)⟩
      rw [ckN_step h0]
      refine ckAt_ok (h.chk _ (List.mem_append_right _ (List.mem_singleton.2 rfl))) ?_
      rintro ⟨hn, hk⟩
      have := (rises_snoc.1 h.rises).2 (T (n - 1)) (by simp only [firstE, List.mem_map, List.mem_range]; exact ⟨n - 1, by omega, rfl⟩)
      rw [hk] at this
      cases this
/-- Two maps side by side. -/
def prs : List En → List En → List (En × En)
  | [], [] => []
  | x :: r, [] => (x, eZ) :: prs r []
  | [], y :: s => (eZ, y) :: prs [] s
  | x :: r, y :: s => if kLt x.k y.k = true then (x, eZ) :: prs r (y :: s) else if kLt y.k x.k = true then (eZ, y) :: prs (x :: r) s else (x, y) :: prs r s
termination_by a b => a.length + b.length
theorem prs_nil : prs [] [] = [] := by unfold prs; rfl
theorem prs_left (x : En) (r : List En) : prs (x :: r) [] = (x, eZ) :: prs r [] := by rw [prs]
theorem prs_right (y : En) (s : List En) : prs [] (y :: s) = (eZ, y) :: prs [] s := by rw [prs]
theorem prs_lt {x y : En} (r s : List En) (h : kLt x.k y.k = true) : prs (x :: r) (y :: s) = (x, eZ) :: prs r (y :: s) := by rw [prs, if_pos h]
theorem prs_gt {x y : En} (r s : List En) (h : kLt x.k y.k = false) (h2 : kLt y.k x.k = true) : prs (x :: r) (y :: s) = (eZ, y) :: prs (x :: r) s := by rw [prs, if_neg (by simp [h]), if_pos h2]
theorem prs_eq {x y : En} (r s : List En) (h : kLt x.k y.k = false) (h2 : kLt y.k x.k = false) : prs (x :: r) (y :: s) = (x, y) :: prs r s := by rw [prs, if_neg (by simp [h]), if_neg (by simp [h2])]
theorem prs_len (a b : List En) : (prs a b).length ≤ a.length + b.length := by
  induction a, b using prs.induct with
  | case1 => simp [prs_nil]
  | case2 x r ih => rw [prs_left]; simp at *; omega
  | case3 y s ih => rw [prs_right]; simp at *; omega
  | case4 x r y s h ih => rw [prs_lt r s h]; simp at *; omega
  | case5 x r y s h h2 ih => rw [prs_gt r s (by simpa using h) h2]; simp at *; omega
  | case6 x r y s h h2 ih => rw [prs_eq r s (by simpa using h) (by simpa using h2)]; simp at *; omega
/-- What is among the pairs. -/
def InP (a b : List En) (p : En × En) : Prop :=
  (p.1 ∈ a ∧ p.2 ∈ b ∧ p.1.k = p.2.k) ∨ (p.1 ∈ a ∧ p.2 = eZ ∧ ∀ y ∈ b, y.k ≠ p.1.k) ∨ (p.1 = eZ ∧ p.2 ∈ b ∧ ∀ x ∈ a, x.k ≠ p.2.k)
theorem rises_consE {x : En} {l : List En} : RisesE (x :: l) ↔ (∀ y ∈ l, kLt x.k y.k = true) ∧ RisesE l := by unfold RisesE; exact List.pairwise_cons
theorem rises_ne {x : En} {l : List En} (h : RisesE (x :: l)) : ∀ y ∈ l, y.k ≠ x.k := fun y hy e => kLt_ne ((rises_consE.1 h).1 y hy) e.symm
theorem low_ne {x y : En} {s : List En} (h : kLt x.k y.k = true) (hs : RisesE (y :: s)) : ∀ z ∈ y :: s, z.k ≠ x.k := by
  intro z hz e
  rcases List.mem_cons.1 hz with rfl | hz
  · exact kLt_ne h e.symm
  · exact kLt_ne (kLt_trans h ((rises_consE.1 hs).1 z hz)) e.symm
theorem mem_prs (a b : List En) : RisesE a → RisesE b → ∀ p, p ∈ prs a b ↔ InP a b p := by
  induction a, b using prs.induct with
  | case1 => intro _ _ p; simp [prs_nil, InP]
  | case2 x r ih =>
    intro ha hb p
    have i := ih (rises_consE.1 ha).2 hb p
    rw [prs_left, List.mem_cons, i]
    unfold InP
    constructor
    · rintro (rfl | ⟨h1, h2, h3⟩ | ⟨h1, h2, h3⟩ | ⟨h1, h2, h3⟩)
      · exact .inr (.inl ⟨List.mem_cons_self, rfl, by simp⟩)
      · simp at h2
      · exact .inr (.inl ⟨List.mem_cons_of_mem _ h1, h2, by simp⟩)
      · simp at h2
    · rintro (⟨h1, h2, h3⟩ | ⟨h1, h2, h3⟩ | ⟨h1, h2, h3⟩)
      · simp at h2
      · rcases List.mem_cons.1 h1 with e | h1
        · exact .inl (Prod.ext e h2)
        · exact .inr (.inr (.inl ⟨h1, h2, by simp⟩))
      · simp at h2
  | case3 y s ih =>
    intro ha hb p
    have i := ih ha (rises_consE.1 hb).2 p
    rw [prs_right, List.mem_cons, i]
    unfold InP
    constructor
    · rintro (rfl | ⟨h1, h2, h3⟩ | ⟨h1, h2, h3⟩ | ⟨h1, h2, h3⟩)
      · exact .inr (.inr ⟨rfl, List.mem_cons_self, by simp⟩)
      · simp at h1
      · simp at h1
      · exact .inr (.inr ⟨h1, List.mem_cons_of_mem _ h2, by simp⟩)
    · rintro (⟨h1, h2, h3⟩ | ⟨h1, h2, h3⟩ | ⟨h1, h2, h3⟩)
      · simp at h1
      · simp at h1
      · rcases List.mem_cons.1 h2 with e | h2
        · exact .inl (Prod.ext h1 e)
        · exact .inr (.inr (.inr ⟨h1, h2, by simp⟩))
  | case4 x r y s h ih =>
    intro ha hb p
    have i := ih (rises_consE.1 ha).2 hb p
    have f := low_ne h hb
    rw [prs_lt r s h, List.mem_cons, i]
    unfold InP
    constructor
    · rintro (rfl | ⟨h1, h2, h3⟩ | ⟨h1, h2, h3⟩ | ⟨h1, h2, h3⟩)
      · exact .inr (.inl ⟨List.mem_cons_self, rfl, f⟩)
      · exact .inl ⟨List.mem_cons_of_mem _ h1, h2, h3⟩
      · exact .inr (.inl ⟨List.mem_cons_of_mem _ h1, h2, h3⟩)
      · refine .inr (.inr ⟨h1, h2, fun z hz => ?_⟩)
        rcases List.mem_cons.1 hz with rfl | hz
        · exact fun e => f _ h2 e.symm
        · exact h3 z hz
    · rintro (⟨h1, h2, h3⟩ | ⟨h1, h2, h3⟩ | ⟨h1, h2, h3⟩)
      · rcases List.mem_cons.1 h1 with e | h1
        · exact absurd (e ▸ h3.symm) (f _ h2)
        · exact .inr (.inl ⟨h1, h2, h3⟩)
      · rcases List.mem_cons.1 h1 with e | h1
        · exact .inl (Prod.ext e h2)
        · exact .inr (.inr (.inl ⟨h1, h2, h3⟩))
      · exact .inr (.inr (.inr ⟨h1, h2, fun z hz => h3 z (List.mem_cons_of_mem _ hz)⟩))
  | case5 x r y s h h' ih =>
    intro ha hb p
    have i := ih ha (rises_consE.1 hb).2 p
    have f := low_ne h' ha
    rw [prs_gt r s (by simpa using h) h', List.mem_cons, i]
    unfold InP
    constructor
    · rintro (rfl | ⟨h1, h2, h3⟩ | ⟨h1, h2, h3⟩ | ⟨h1, h2, h3⟩)
      · exact .inr (.inr ⟨rfl, List.mem_cons_self, f⟩)
      · exact .inl ⟨h1, List.mem_cons_of_mem _ h2, h3⟩
      · refine .inr (.inl ⟨h1, h2, fun z hz => ?_⟩)
        rcases List.mem_cons.1 hz with rfl | hz
        · exact fun e => f _ h1 e.symm
        · exact h3 z hz
      · exact .inr (.inr ⟨h1, List.mem_cons_of_mem _ h2, h3⟩)
    · rintro (⟨h1, h2, h3⟩ | ⟨h1, h2, h3⟩ | ⟨h1, h2, h3⟩)
      · rcases List.mem_cons.1 h2 with e | h2
        · exact absurd (e ▸ h3) (f _ h1)
        · exact .inr (.inl ⟨h1, h2, h3⟩)
      · exact .inr (.inr (.inl ⟨h1, h2, fun z hz => h3 z (List.mem_cons_of_mem _ hz)⟩))
      · rcases List.mem_cons.1 h2 with e | h2
        · exact .inl (Prod.ext h1 e)
        · exact .inr (.inr (.inr ⟨h1, h2, h3⟩))
  | case6 x r y s h h' ih =>
    intro ha hb p
    have i := ih (rises_consE.1 ha).2 (rises_consE.1 hb).2 p
    have hk : x.k = y.k := kLt_total (by simpa using h) (by simpa using h')
    have f1 := rises_ne ha
    have f2 := rises_ne hb
    rw [prs_eq r s (by simpa using h) (by simpa using h'), List.mem_cons, i]
    unfold InP
    constructor
    · rintro (rfl | ⟨h1, h2, h3⟩ | ⟨h1, h2, h3⟩ | ⟨h1, h2, h3⟩)
      · exact .inl ⟨List.mem_cons_self, List.mem_cons_self, hk⟩
      · exact .inl ⟨List.mem_cons_of_mem _ h1, List.mem_cons_of_mem _ h2, h3⟩
      · refine .inr (.inl ⟨List.mem_cons_of_mem _ h1, h2, fun z hz => ?_⟩)
        rcases List.mem_cons.1 hz with rfl | hz
        · exact fun e => f1 _ h1 (e.symm.trans hk.symm)
        · exact h3 z hz
      · refine .inr (.inr ⟨h1, List.mem_cons_of_mem _ h2, fun z hz => ?_⟩)
        rcases List.mem_cons.1 hz with rfl | hz
        · exact fun e => f2 _ h2 (e.symm.trans hk)
        · exact h3 z hz
    · rintro (⟨h1, h2, h3⟩ | ⟨h1, h2, h3⟩ | ⟨h1, h2, h3⟩)
      · rcases List.mem_cons.1 h1 with e | h1 <;> rcases List.mem_cons.1 h2 with e2 | h2
        · exact .inl (Prod.ext e e2)
        · exact absurd (h3.symm.trans ((congrArg En.k e).trans hk)) (f2 _ h2)
        · exact absurd (h3.trans ((congrArg En.k e2).trans hk.symm)) (f1 _ h1)
        · exact .inr (.inl ⟨h1, h2, h3⟩)
      · rcases List.mem_cons.1 h1 with e | h1
        · exact absurd (hk.symm.trans (congrArg En.k e).symm) (h3 y List.mem_cons_self)
        · exact .inr (.inr (.inl ⟨h1, h2, fun z hz => h3 z (List.mem_cons_of_mem _ hz)⟩))
      · rcases List.mem_cons.1 h2 with e | h2
        · exact absurd (hk.trans (congrArg En.k e).symm) (h3 x List.mem_cons_self)
        · exact .inr (.inr (.inr ⟨h1, h2, fun z hz => h3 z (List.mem_cons_of_mem _ hz)⟩))
/-- The newest of both. -/
def mxL (a b : List En) : List En := (prs a b).map (fun p => En.best p.1 p.2)
/-- What b lacks of a. -/
def lkL (a b : List En) : List En := ((prs a b).filter (fun p => En.newer p.1 p.2)).map (fun p => p.1)
theorem best_pick (x y : En) : (En.best x y = y ∧ En.newer y x = true) ∨ (En.best x y = x ∧ En.newer y x = false) := by
  unfold En.best
  cases En.newer y x
  · exact .inr ⟨rfl, rfl⟩
  · exact .inl ⟨rfl, rfl⟩
theorem newer_z {x : En} (h : 1 ≤ x.c ∧ 0 ≤ x.n) : En.newer eZ x = false ∧ En.newer x eZ = true := by
  constructor
  · rw [newer_not]; simp [eZ]; omega
  · rw [newer_iff]; simp [eZ]; omega
theorem best_zr {x : En} (h : 1 ≤ x.c ∧ 0 ≤ x.n) : En.best x eZ = x := by unfold En.best; rw [(newer_z h).1]; rfl
theorem best_zl {x : En} (h : 1 ≤ x.c ∧ 0 ≤ x.n) : En.best eZ x = x := by unfold En.best; rw [(newer_z h).2]; rfl
theorem mem_mx {a b : List En} (ha : MapL a) (hb : MapL b) (x : En) : x ∈ mxL a b ↔ (x ∈ a ∧ ∀ y ∈ b, y.k = x.k → En.newer y x = false) ∨ (x ∈ b ∧ ∀ y ∈ a, y.k = x.k → En.newer x y = true) := by
  unfold mxL
  rw [List.mem_map]
  constructor
  · rintro ⟨⟨p, q⟩, hp, rfl⟩
    rw [mem_prs a b ha.rises hb.rises] at hp
    rcases hp with ⟨h1, h2, h3⟩ | ⟨h1, h2, h3⟩ | ⟨h1, h2, h3⟩ <;> dsimp only at h1 h2 h3 ⊢
    · rcases best_pick p q with ⟨e, g⟩ | ⟨e, g⟩ <;> rw [e]
      · refine .inr ⟨h2, fun y hy hk => ?_⟩
        rw [key_one ha.rises hy h1 (hk.trans h3.symm)]
        exact g
      · refine .inl ⟨h1, fun y hy hk => ?_⟩
        rw [key_one hb.rises hy h2 (hk.trans h3)]
        exact g
    · subst h2
      rw [best_zr (ha.pos h1)]
      exact .inl ⟨h1, fun y hy hk => absurd hk (h3 y hy)⟩
    · subst h1
      rw [best_zl (hb.pos h2)]
      exact .inr ⟨h2, fun y hy hk => absurd hk (h3 y hy)⟩
  · rintro (⟨h1, h2⟩ | ⟨h1, h2⟩)
    · by_cases hq : ∃ y ∈ b, y.k = x.k
      · obtain ⟨y, hy, hk⟩ := hq
        refine ⟨(x, y), (mem_prs a b ha.rises hb.rises _).2 (.inl ⟨h1, hy, hk.symm⟩), ?_⟩
        show En.best x y = x
        unfold En.best
        rw [h2 y hy hk]
        rfl
      · exact ⟨(x, eZ), (mem_prs a b ha.rises hb.rises _).2 (.inr (.inl ⟨h1, rfl, fun y hy hk => hq ⟨y, hy, hk⟩⟩)), best_zr (ha.pos h1)⟩
    · by_cases hq : ∃ y ∈ a, y.k = x.k
      · obtain ⟨y, hy, hk⟩ := hq
        refine ⟨(y, x), (mem_prs a b ha.rises hb.rises _).2 (.inl ⟨hy, h1, hk⟩), ?_⟩
        show En.best y x = x
        unfold En.best
        rw [h2 y hy hk]
        rfl
      · exact ⟨(eZ, x), (mem_prs a b ha.rises hb.rises _).2 (.inr (.inr ⟨rfl, h1, fun y hy hk => hq ⟨y, hy, hk⟩⟩)), best_zl (hb.pos h1)⟩
theorem mx_src {a b : List En} (ha : MapL a) (hb : MapL b) {x : En} (h : x ∈ mxL a b) : x ∈ a ∨ x ∈ b := by
  rcases (mem_mx ha hb x).1 h with h | h
  · exact .inl h.1
  · exact .inr h.1
theorem mapL_tail {x : En} {l : List En} (h : MapL (x :: l)) : MapL l := ⟨(rises_consE.1 h.rises).2, fun e he => h.chk e (List.mem_cons_of_mem _ he)⟩
theorem mapL_sub {l m : List En} (h : MapL m) (s : l.Sublist m) : MapL l := ⟨List.Pairwise.sublist s h.rises, fun e he => h.chk e (s.subset he)⟩
theorem mx_rises (a b : List En) : MapL a → MapL b → RisesE (mxL a b) := by
  induction a, b using prs.induct with
  | case1 => intro _ _; unfold mxL; rw [prs_nil]; exact List.Pairwise.nil
  | case2 x r ih =>
    intro ha hb
    have i := ih (mapL_tail ha) hb
    have e : mxL (x :: r) [] = x :: mxL r [] := by unfold mxL; rw [prs_left, List.map_cons, best_zr (ha.pos List.mem_cons_self)]
    rw [e, rises_consE]
    refine ⟨fun y hy => ?_, i⟩
    rcases mx_src (mapL_tail ha) hb hy with h | h
    · exact (rises_consE.1 ha.rises).1 y h
    · simp at h
  | case3 y s ih =>
    intro ha hb
    have i := ih ha (mapL_tail hb)
    have e : mxL [] (y :: s) = y :: mxL [] s := by unfold mxL; rw [prs_right, List.map_cons, best_zl (hb.pos List.mem_cons_self)]
    rw [e, rises_consE]
    refine ⟨fun z hz => ?_, i⟩
    rcases mx_src ha (mapL_tail hb) hz with h | h
    · simp at h
    · exact (rises_consE.1 hb.rises).1 z h
  | case4 x r y s h ih =>
    intro ha hb
    have i := ih (mapL_tail ha) hb
    have e : mxL (x :: r) (y :: s) = x :: mxL r (y :: s) := by unfold mxL; rw [prs_lt r s h, List.map_cons, best_zr (ha.pos List.mem_cons_self)]
    rw [e, rises_consE]
    refine ⟨fun z hz => ?_, i⟩
    rcases mx_src (mapL_tail ha) hb hz with g | g
    · exact (rises_consE.1 ha.rises).1 z g
    · rcases List.mem_cons.1 g with rfl | g
      · exact h
      · exact kLt_trans h ((rises_consE.1 hb.rises).1 z g)
  | case5 x r y s h h' ih =>
    intro ha hb
    have i := ih ha (mapL_tail hb)
    have e : mxL (x :: r) (y :: s) = y :: mxL (x :: r) s := by unfold mxL; rw [prs_gt r s (by simpa using h) h', List.map_cons, best_zl (hb.pos List.mem_cons_self)]
    rw [e, rises_consE]
    refine ⟨fun z hz => ?_, i⟩
    rcases mx_src ha (mapL_tail hb) hz with g | g
    · rcases List.mem_cons.1 g with rfl | g
      · exact h'
      · exact kLt_trans h' ((rises_consE.1 ha.rises).1 z g)
    · exact (rises_consE.1 hb.rises).1 z g
  | case6 x r y s h h' ih =>
    intro ha hb
    have i := ih (mapL_tail ha) (mapL_tail hb)
    have hk : x.k = y.k := kLt_total (by simpa using h) (by simpa using h')
    have e : mxL (x :: r) (y :: s) = En.best x y :: mxL r s := by unfold mxL; rw [prs_eq r s (by simpa using h) (by simpa using h'), List.map_cons]
    have hb' : (En.best x y).k = x.k := by
      rcases best_pick x y with ⟨e, _⟩ | ⟨e, _⟩ <;> rw [e]
      exact hk.symm
    rw [e, rises_consE]
    refine ⟨fun z hz => ?_, i⟩
    rw [hb']
    rcases mx_src (mapL_tail ha) (mapL_tail hb) hz with g | g
    · exact (rises_consE.1 ha.rises).1 z g
    · rw [hk]; exact (rises_consE.1 hb.rises).1 z g
theorem mx_map {a b : List En} (ha : MapL a) (hb : MapL b) : MapL (mxL a b) :=
  ⟨mx_rises a b ha hb, fun e he => by rcases mx_src ha hb he with h | h; exact ha.chk e h; exact hb.chk e h⟩
theorem lk_sub (a b : List En) : MapL a → MapL b → (lkL a b).Sublist a := by
  induction a, b using prs.induct with
  | case1 => intro _ _; unfold lkL; rw [prs_nil]; exact List.Sublist.refl _
  | case2 x r ih =>
    intro ha hb
    have e : lkL (x :: r) [] = x :: lkL r [] := by unfold lkL; rw [prs_left, List.filter_cons_of_pos (by exact (newer_z (ha.pos List.mem_cons_self)).2), List.map_cons]
    rw [e]
    exact (ih (mapL_tail ha) hb).cons_cons x
  | case3 y s ih =>
    intro ha hb
    have e : lkL [] (y :: s) = lkL [] s := by unfold lkL; rw [prs_right, List.filter_cons_of_neg (by simp [(newer_z (hb.pos List.mem_cons_self)).1])]
    rw [e]
    exact ih ha (mapL_tail hb)
  | case4 x r y s h ih =>
    intro ha hb
    have e : lkL (x :: r) (y :: s) = x :: lkL r (y :: s) := by unfold lkL; rw [prs_lt r s h, List.filter_cons_of_pos (by exact (newer_z (ha.pos List.mem_cons_self)).2), List.map_cons]
    rw [e]
    exact (ih (mapL_tail ha) hb).cons_cons x
  | case5 x r y s h h' ih =>
    intro ha hb
    have e : lkL (x :: r) (y :: s) = lkL (x :: r) s := by unfold lkL; rw [prs_gt r s (by simpa using h) h', List.filter_cons_of_neg (by simp [(newer_z (hb.pos List.mem_cons_self)).1])]
    rw [e]
    exact ih ha (mapL_tail hb)
  | case6 x r y s h h' ih =>
    intro ha hb
    have i := ih (mapL_tail ha) (mapL_tail hb)
    cases hq : En.newer x y
    · have e : lkL (x :: r) (y :: s) = lkL r s := by unfold lkL; rw [prs_eq r s (by simpa using h) (by simpa using h'), List.filter_cons_of_neg (by simp [hq])]
      rw [e]
      exact i.cons x
    · have e : lkL (x :: r) (y :: s) = x :: lkL r s := by unfold lkL; rw [prs_eq r s (by simpa using h) (by simpa using h'), List.filter_cons_of_pos (by simp [hq]), List.map_cons]
      rw [e]
      exact i.cons_cons x
theorem lk_map {a b : List En} (ha : MapL a) (hb : MapL b) : MapL (lkL a b) := mapL_sub ha (lk_sub a b ha hb)
theorem mem_lk {a b : List En} (ha : MapL a) (hb : MapL b) (x : En) : x ∈ lkL a b ↔ x ∈ a ∧ ∀ y ∈ b, y.k = x.k → En.newer x y = true := by
  unfold lkL
  rw [List.mem_map]
  constructor
  · rintro ⟨⟨p, q⟩, hp, rfl⟩
    rw [List.mem_filter, mem_prs a b ha.rises hb.rises] at hp
    obtain ⟨hp, hn⟩ := hp
    rcases hp with ⟨h1, h2, h3⟩ | ⟨h1, h2, h3⟩ | ⟨h1, h2, h3⟩ <;> dsimp only at h1 h2 h3 hn ⊢
    · refine ⟨h1, fun y hy hk => ?_⟩
      rw [key_one hb.rises hy h2 (hk.trans h3)]
      exact hn
    · exact ⟨h1, fun y hy hk => absurd hk (h3 y hy)⟩
    · subst h1
      rw [(newer_z (hb.pos h2)).1] at hn
      cases hn
  · rintro ⟨h1, h2⟩
    by_cases hq : ∃ y ∈ b, y.k = x.k
    · obtain ⟨y, hy, hk⟩ := hq
      exact ⟨(x, y), List.mem_filter.2 ⟨(mem_prs a b ha.rises hb.rises _).2 (.inl ⟨h1, hy, hk.symm⟩), h2 y hy hk⟩, rfl⟩
    · exact ⟨(x, eZ), List.mem_filter.2 ⟨(mem_prs a b ha.rises hb.rises _).2 (.inr (.inl ⟨h1, rfl, fun y hy hk => hq ⟨y, hy, hk⟩⟩)), (newer_z (ha.pos h1)).2⟩, rfl⟩
theorem newer_tot {x y : En} (h : En.newer x y = true) : En.newer y x = false := by
  rw [newer_iff] at h; rw [newer_not]; omega
end Go.Proofs.YtoflalflacopdaaDoor
namespace Go.Proofs.YtoflalflacopdaaDoor
open Go.RowKit
set_option linter.unusedVariables false
/-- A store can be made of these. -/
structure LdOk (nd ck : Int) (l : List En) : Prop where
  nd : nodeB nd = true
  c0 : 0 ≤ ck
  c1 : ck ≤ 1099511627776
  len : l.length ≤ 256
  map : MapL l
  ver : ∀ e ∈ l, e.c ≤ ck
theorem insE_end (e : En) : ∀ l : List En, (∀ y ∈ l, kLt y.k e.k = true) → insE e l = l ++ [e]
  | [], _ => rfl
  | y :: l, h => by
    have h1 := h y List.mem_cons_self
    unfold insE
    rw [if_neg (by rw [kLt_asymm h1]; simp), if_pos h1, insE_end e l (fun z hz => h z (List.mem_cons_of_mem _ hz))]
    rfl
theorem first_sub (T : Nat → En) {m n : Nat} (h : m ≤ n) : (firstE T m).Sublist (firstE T n) := by
  unfold firstE
  exact (List.range_sublist.2 h).map T
theorem first_mem {T : Nat → En} {j n : Nat} (h : j < n) : T j ∈ firstE T n := by
  unfold firstE
  exact List.mem_map.2 ⟨j, List.mem_range.2 h, rfl⟩
theorem ld_step {T : Nat → En} {j len : Nat} (h : MapL (firstE T len)) (hj : j < len) : insE (T j) (firstE T j) = firstE T (j + 1) := by
  have h1 : MapL (firstE T (j + 1)) := mapL_sub h (first_sub T (by omega))
  have h2 := h1.rises
  rw [firstE_succ, rises_snoc] at h2
  rw [firstE_succ, insE_end (T j) _ h2.2]
theorem ckm_low {ck c : Int} (h : c ≤ ck) : ckm ck c = ck := by
  unfold ckm
  rw [if_neg (by omega)]
theorem key_small {e : En} (h : e.chk = 0) : e.k.size ≤ 140737488351232 := by
  have := (chk_pos h).2.1
  omega
end Go.Proofs.YtoflalflacopdaaDoor
namespace Go.Proofs.YtoflalflacopdaaDoor
open Go.RowKit
set_option linter.unusedVariables false
/-- A store's entries and clock, how many were taken, how many refused. -/
structure TkS where
  l : List En
  c : Int
  n : Nat
  f : Nat
def tkStep (s : TkS) (e : En) : TkS := if (tkSay e s.l).2 = true then ⟨insE e s.l, ckm s.c e.c, s.n + 1, s.f⟩ else if (tkSay e s.l).1 = 80 then ⟨s.l, s.c, s.n, s.f + 1⟩ else s
def tkAll (s : TkS) (l : List En) : TkS := l.foldl tkStep s
theorem tkAll_snoc (s : TkS) (l : List En) (e : En) : tkAll s (l ++ [e]) = tkStep (tkAll s l) e := by simp [tkAll]
theorem tkAll_succ (s : TkS) (T : Nat → En) (j : Nat) : tkAll s (firstE T (j + 1)) = tkStep (tkAll s (firstE T j)) (T j) := by rw [firstE_succ, tkAll_snoc]
theorem tk_yes {e : En} {Ls : List En} (h : (tkSay e Ls).2 = true) : (tkSay e Ls).1 = 0 ∧ e.chk = 0 ∧ roomB e.k Ls = true := by
  unfold tkSay at h ⊢
  by_cases h1 : e.chk ≠ 0
  · rw [if_pos h1] at h; simp at h
  · rw [if_neg h1] at h ⊢
    by_cases h2 : roomB e.k Ls = false
    · rw [if_pos h2] at h; simp at h
    · rw [if_neg h2]
      refine ⟨?_, by simpa using h1, by simpa using h2⟩
      cases lookE e.k Ls <;> rfl
theorem insE_len_le (e : En) : ∀ l : List En, (insE e l).length ≤ l.length + 1
  | [] => by simp [insE]
  | y :: l => by
    have ih := insE_len_le e l
    unfold insE
    split
    · simp
    · split
      · simp only [List.length_cons]; omega
      · simp
theorem tkStep_n (s : TkS) (e : En) : (tkStep s e).n ≤ s.n + 1 ∧ (tkStep s e).f ≤ s.f + 1 := by
  unfold tkStep
  split
  · exact ⟨Nat.le_refl _, Nat.le_succ _⟩
  · split
    · exact ⟨Nat.le_succ _, Nat.le_refl _⟩
    · exact ⟨Nat.le_succ _, Nat.le_succ _⟩
theorem tkStep_len {s : TkS} {e : En} {N : Nat} (h : s.l.length ≤ N) : (tkStep s e).l.length ≤ N + 1 := by
  unfold tkStep
  split
  · have := insE_len_le e s.l
    show (insE e s.l).length ≤ N + 1
    omega
  · split
    · show s.l.length ≤ N + 1
      omega
    · omega
theorem tkAll_len {s : TkS} {N : Nat} (h : s.l.length ≤ N) (T : Nat → En) : ∀ j, (tkAll s (firstE T j)).l.length ≤ N + j
  | 0 => by simpa [firstE, tkAll] using h
  | j + 1 => by
    rw [tkAll_succ]
    have := tkStep_len (e := T j) (tkAll_len h T j)
    omega
theorem tkAll_n {s : TkS} (T : Nat → En) : ∀ j, (tkAll s (firstE T j)).n ≤ s.n + j ∧ (tkAll s (firstE T j)).f ≤ s.f + j
  | 0 => by simp [firstE, tkAll]
  | j + 1 => by
    rw [tkAll_succ]
    have h1 := tkStep_n (tkAll s (firstE T j)) (T j)
    have h2 := tkAll_n (s := s) T j
    omega
end Go.Proofs.YtoflalflacopdaaDoor
namespace Go.Proofs.YtoflalflacopdaaDoor
open Go.RowKit
set_option linter.unusedVariables false
/-- How many entries stand ahead of a key. -/
def plc (k : ByteArray) : List En → Nat
  | [] => 0
  | y :: l => if kLt y.k k = true then plc k l + 1 else 0
/-- Whether it stands there. -/
def isP (k : ByteArray) : List En → Bool
  | [] => false
  | y :: l => if kLt y.k k = true then isP k l else y.k.toList == k.toList
theorem plc_le (k : ByteArray) : ∀ l : List En, plc k l ≤ l.length
  | [] => Nat.le_refl _
  | y :: l => by
    have := plc_le k l
    unfold plc
    split <;> simp <;> omega
theorem isP_lt {k : ByteArray} : ∀ {l : List En}, isP k l = true → plc k l < l.length
  | [], h => by simp [isP] at h
  | y :: l, h => by
    unfold isP at h
    unfold plc
    by_cases g : kLt y.k k = true
    · rw [if_pos g] at h ⊢
      have := isP_lt h
      simp; omega
    · rw [if_neg g]; simp
theorem nthE_succ (y : En) (l : List En) (i : Nat) : nthE (y :: l) (i + 1) = nthE l i := by simp [nthE]
/-- An entry laid: those ahead, it, those behind. -/
theorem insE_plc (e : En) : ∀ l : List En, insE e l = l.take (plc e.k l) ++ [e] ++ l.drop (if isP e.k l = true then plc e.k l + 1 else plc e.k l)
  | [] => by simp [insE, plc, isP]
  | y :: l => by
    unfold insE plc isP
    by_cases g : kLt y.k e.k = true
    · rw [if_neg (by rw [kLt_asymm g]; simp), if_pos g, if_pos g, if_pos g, insE_plc e l]
      by_cases h : isP e.k l = true
      · rw [if_pos h, if_pos h]; simp
      · rw [if_neg h, if_neg h]; simp
    · rw [if_neg g, if_neg g, if_neg g]
      by_cases h : kLt e.k y.k = true
      · rw [if_pos h, if_neg (by
          intro c
          have : y.k = e.k := toList_inj (by simpa using c)
          rw [this, kLt_irrefl] at h; cases h)]
        simp
      · rw [if_neg h, if_pos (by
          have : y.k = e.k := kLt_total (by simpa using g) (by simpa using h)
          rw [this]; simp)]
        simp
/-- What is held under a key. -/
theorem look_plc {k : ByteArray} : ∀ {l : List En}, RisesE l → lookE k l = if isP k l = true then some (nthE l (plc k l)) else none
  | [], _ => by simp [lookE, isP]
  | y :: l, hr => by
    have h1 := rises_consE.1 hr
    unfold lookE isP plc
    by_cases g : kLt y.k k = true
    · rw [if_pos g, if_pos g]
      rw [List.find?_cons_of_neg (by simp [g])]
      have := look_plc (k := k) h1.2
      unfold lookE at this
      rw [this, nthE_succ]
    · rw [if_neg g, if_neg g]
      by_cases h : kLt k y.k = true
      · rw [List.find?_cons_of_neg (by simp [h]), if_neg (by
          intro c
          have : y.k = k := toList_inj (by simpa using c)
          rw [this, kLt_irrefl] at h; cases h)]
        rw [List.find?_eq_none]
        intro z hz
        have : kLt k z.k = true := kLt_trans h (h1.1 z hz)
        simp [this]
      · rw [List.find?_cons_of_pos (by simp [g, h]), if_pos (by
          have : y.k = k := kLt_total (by simpa using g) (by simpa using h)
          rw [this]; simp)]
        simp [nthE]
theorem room_plc {k : ByteArray} {l : List En} (h : RisesE l) : roomB k l = (isP k l || decide (l.length < 256)) := by
  unfold roomB
  rw [look_plc h]
  cases isP k l <;> simp
theorem take_map {e : En} {l : List En} (h : MapL l) (he : e.chk = 0) : MapL (insE e l) := ⟨rises_of_map (by rw [← ins_map]; exact rises_ins _ (rises_map h.rises)), fun x hx => by
  rw [insE_plc] at hx
  simp only [List.append_assoc, List.singleton_append, List.mem_append, List.mem_cons] at hx
  rcases hx with hx | rfl | hx
  · exact h.chk x (List.mem_of_mem_take hx)
  · exact he
  · exact h.chk x (List.mem_of_mem_drop hx)⟩
theorem take_len {e : En} {l : List En} (h : RisesE l) (hl : l.length ≤ 256) (hr : roomB e.k l = true) : (insE e l).length ≤ 256 := by
  rw [room_plc h] at hr
  rw [insE_plc]
  have h1 := plc_le e.k l
  cases hi : isP e.k l
  · rw [hi] at hr
    simp at hr ⊢
    omega
  · have h2 := isP_lt hi
    simp
    omega
end Go.Proofs.YtoflalflacopdaaDoor
namespace Go.Proofs.YtoflalflacopdaaDoor
open Go.RowKit
set_option linter.unusedVariables false
/-- An owned row's slice, in letters. -/
theorem own_slice {w : World} {B : Nat} {e : TypeId} {s : Nat} {v : Value} {n : Nat} {xs : List Value} (h : w.ownsRow B e s v n xs) : ∃ a c, v = .slice a n c ∧ n ≤ c ∧ c ≤ maxLen ∧ ((a = none ∧ n = 0 ∧ c = 0) ∨ ∃ g, a = some ⟨g, 0, none⟩ ∧ B ≤ g) := by
  rcases h.2 with ⟨rfl, rfl⟩ | ⟨g, cap, cur, rfl, hb, _, hn, hm, _⟩
  · exact ⟨none, 0, rfl, Nat.le_refl _, Nat.zero_le _, .inl ⟨rfl, rfl, rfl⟩⟩
  · exact ⟨_, cap, rfl, hn, hm, .inr ⟨g, rfl, hb⟩⟩
end Go.Proofs.YtoflalflacopdaaDoor

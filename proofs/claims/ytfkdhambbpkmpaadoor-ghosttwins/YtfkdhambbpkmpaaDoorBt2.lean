/-
  Rows of entries that a call owns: their cells, copies by append, one entry appended.
  Lists of entries by rising keys.
  Plain mathematics of maps: which lists are maps, two of them side by side, the newest of both, what one lacks of the other.
  What MixTurned needs: a place among n; rows of entries that grow and shrink side by side; sums of lists.
  Two maps side by side, step by step: plain; rows of pairs in memory.
-/
import Derived.Test.YtfkdhambbpkmpaaDoorBt1
import Derived.OwnWalk
import Derived.Laws.OwnMore
import Derived.Maps.AppendAt
namespace Go.Proofs.YtfkdhambbpkmpaaDoor
open Go.RowKit
set_option linter.unusedVariables false
def entVals (e : En) : List Value := [.string e.k, .int .i64 e.c, .int .i64 e.n, .string e.v, .bool e.d]
def entCells : List En → List Value
  | [] => []
  | e :: r => entVals e ++ entCells r
theorem entCells_length : ∀ l : List En, (entCells l).length = l.length * 5
  | [] => rfl
  | e :: r => by simp only [entCells, List.length_append, entCells_length r, List.length_cons, entVals]; simp; omega
theorem entCells_append : ∀ l m : List En, entCells (l ++ m) = entCells l ++ entCells m
  | [], _ => rfl
  | e :: r, m => by simp [entCells, entCells_append r m]
theorem entCells_at : ∀ (l : List En) (i r : Nat) (e : En), l[i]? = some e → r < 5 → (entCells l)[i * 5 + r]? = (entVals e)[r]?
  | [], i, r, e, h, _ => by simp at h
  | x :: t, 0, r, e, h, hr => by
    simp at h; subst h
    simp only [entCells]
    rw [List.getElem?_append_left (by simp [entVals]; omega)]
    simp
  | x :: t, i + 1, r, e, h, hr => by
    simp only [entCells]
    rw [List.getElem?_append_right (by simp [entVals]; omega)]
    have := entCells_at t i r e (by simpa using h) hr
    rw [← this]
    congr 1
    simp [entVals]
    omega
theorem entCells_one (l : List En) : ∀ u ∈ entCells l, u.oneCell' = true := by
  induction l with
  | nil => intro u hu; simp [entCells] at hu
  | cons e r ih =>
    intro u hu
    simp only [entCells, List.mem_append] at hu
    rcases hu with hu | hu
    · simp [entVals] at hu
      rcases hu with rfl | rfl | rfl | rfl | rfl <;> rfl
    · exact ih u hu
theorem infoEnt : (Tryd.prog.info? 55).map (fun i => (i.zero, i.size, i.bytes)) = some (some (.agg #[.string ⟨#[]⟩, .int .i64 0, .int .i64 0, .string ⟨#[]⟩, .bool false]), 5, 56) := by kernel_rfl
def nthE (l : List En) (i : Nat) : En := l.getD i ⟨⟨#[]⟩, 0, 0, ⟨#[]⟩, false⟩
theorem nthE_get {l : List En} {i : Nat} (h : i < l.length) : l[i]? = some (nthE l i) := by
  unfold nthE; rw [List.getD, List.getElem?_eq_getElem h]; rfl
def KeysOk (l : List En) : Prop := ∀ e ∈ l, e.k.size ≤ 140737488351232
/-- The cells of a part of an owned row. -/
theorem row_cells {w : World} {B g cap n : Nat} {l : List En} (h : w.ownsRow B 55 5 (.slice (some ⟨g, 0, none⟩) n cap) n (entCells l)) {i : Nat} (hi : i < l.length) :
    w.cell? ⟨g, i * 5, none⟩ = some (.string (nthE l i).k) ∧ w.cell? ⟨g, i * 5 + 1, none⟩ = some (.int .i64 (nthE l i).c) ∧ w.cell? ⟨g, i * 5 + 2, none⟩ = some (.int .i64 (nthE l i).n) ∧ w.cell? ⟨g, i * 5 + 3, none⟩ = some (.string (nthE l i).v) ∧ w.cell? ⟨g, i * 5 + 4, none⟩ = some (.bool (nthE l i).d) := by
  have hn : l.length = n := by have := h.1; rw [entCells_length] at this; omega
  have e := nthE_get hi
  have c : ∀ r, r < 5 → w.cell? ⟨g, i * 5 + r, none⟩ = (entVals (nthE l i))[r]? := fun r hr => by
    rw [h.cellAt (i * 5 + r) (by omega), entCells_at l i r _ e hr]
  exact ⟨by simpa [entVals] using c 0 (by omega), by simpa [entVals] using c 1 (by omega), by simpa [entVals] using c 2 (by omega), by simpa [entVals] using c 3 (by omega), by simpa [entVals] using c 4 (by omega)⟩
theorem row_max {w : World} {B g cap n : Nat} {xs : List Value} {e s : Nat} (h : w.ownsRow B e s (.slice (some ⟨g, 0, none⟩) n cap) n xs) : n ≤ cap ∧ cap ≤ maxLen := by
  rcases h.2 with ⟨h, _⟩ | ⟨g', cap', cur, h1, h2, h3, h4, h5, h6⟩
  · cases h
  · injection h1 with e1 e2 e3
    omega
/-- A part of an owned row as a list of entries in memory: m entries from entry o on. -/
theorem ents_of_row {w : World} {B g cap n : Nat} {l : List En} (h : w.ownsRow B 55 5 (.slice (some ⟨g, 0, none⟩) n cap) n (entCells l)) (hk : KeysOk l) {o m c : Nat} (hm : o + m ≤ n) (hc : m ≤ c) (hx : c ≤ maxLen) {a : Option Addr} (ha : m = 0 ∨ a = some ⟨g, o * 5, none⟩) :
    EntsIn w a m c (fun i => nthE l (o + i)) := by
  have hn : l.length = n := by have := h.1; rw [entCells_length] at this; omega
  refine ⟨hc, hx, ?_⟩
  rcases ha with ha | rfl
  · exact .inl ha
  · refine .inr ⟨g, o * 5, rfl, (h.lt g rfl).2, fun i hi => ⟨?_, hk _ ?_⟩⟩
    · have := row_cells h (i := o + i) (by omega)
      rw [show (o + i) * 5 = o * 5 + i * 5 from by omega] at this
      exact this
    · have := nthE_get (l := l) (i := o + i) (by omega)
      exact List.mem_of_getElem? this
/-- The cells of a list of entries that came in. -/
theorem ents_cells {w : World} {y : Addr} {len cap : Nat} {T : Nat → En} (h : EntsIn w (some y) len cap T) : ∀ j u, (entCells ((List.range len).map T))[j]? = some u → w.cell? (y.add j) = some u := by
  intro j u hj
  have hjl : j < len * 5 := by
    have := (List.getElem?_eq_some_iff.1 hj).1
    rw [entCells_length] at this
    simpa using this
  rcases h.2.2 with h0 | ⟨b, off, hy, hb, hc⟩
  · omega
  · injection hy with hy
    subst hy
    obtain ⟨⟨c0, c1, c2, c3, c4⟩, -⟩ := hc (j / 5) (by omega)
    have hat := entCells_at ((List.range len).map T) (j / 5) (j % 5) (T (j / 5)) (by rw [List.getElem?_map, List.getElem?_range (by omega)]; rfl) (by omega)
    rw [show j / 5 * 5 + j % 5 = j from by omega] at hat
    rw [hat] at hj
    rw [Addr.add_lit, show off + j = off + j / 5 * 5 + j % 5 from by omega]
    have hr : j % 5 < 5 := by omega
    generalize j % 5 = r at *
    match r, hr with
    | 0, _ => simp [entVals] at hj; subst hj; exact c0
    | 1, _ => simp [entVals] at hj; subst hj; exact c1
    | 2, _ => simp [entVals] at hj; subst hj; exact c2
    | 3, _ => simp [entVals] at hj; subst hj; exact c3
    | 4, _ => simp [entVals] at hj; subst hj; exact c4
/-- One entry appended to an owned row, as one operation. -/
theorem op_append_ent {w : World} {o : Oper} {act : Act} {K : Act → World → Prop} {Q : Exit → Act → World → Prop} (s x : Operand)
    (ho : o.op = .call { callee := .builtin .append, args := #[s, x], argTypes := #[22, 22] })
    (B n : Nat) (v : Value) (l : List En) (hs : act.eval s = v) (hown : w.ownsRow B 55 5 v n (entCells l)) (b c : Nat) (e : En) (hx : act.eval x = .slice (some ⟨b, 0, none⟩) 1 c)
    (hb : w.heap[b]? = some (.cells #[.string e.k, .int .i64 e.c, .int .i64 e.n, .string e.v, .bool e.d] 55 (0, 0))) (hlen : n * 56 ≤ 140737488351232) (hB : B ≤ w.heap.size)
    (h : ∀ g cap w', w'.ownsRow B 55 5 (.slice (some ⟨g, 0, none⟩) (n + 1) cap) (n + 1) (entCells (l ++ [e])) → w.grownBy w' v.ownBlock → K (act.put o.dst (.slice (some ⟨g, 0, none⟩) (n + 1) cap)) w') : o.wp Tryd.prog act w K Q := by
  obtain ⟨i0, hi, hz0, hz1, hz2⟩ := info_parts infoEnt
  refine wp_append_own w s x _ ho B 55 i0 _ 5 56 Tryd.underlying22 hi hz0 hz1 hz2 rfl (by decide) _ _ _ hs hown ⟨b, 0, none⟩ 1 c (entVals e) hx rfl ?_ (fun u hu => entCells_one [e] u (by simpa [entCells] using hu)) (by unfold maxLen; omega) (by omega) hB ?_
  · exact World.news_of_block (cs := #[.string e.k, .int .i64 e.c, .int .i64 e.n, .string e.v, .bool e.d]) (t := 55) (fr := (0, 0)) hb
  · intro v' w' ho' hg _
    have e1 : entCells l ++ entVals e = entCells (l ++ [e]) := by rw [entCells_append]; simp [entCells]
    rw [e1] at ho'
    rcases ho'.2 with ⟨h1, h2⟩ | ⟨g, cap', cur, rfl, _⟩
    · omega
    · exact h g cap' w' ho' hg
theorem own_low {w : World} {base base' : Nat} {e : TypeId} {size : Nat} {v : Value} {n : Nat} {xs : List Value} (h : w.ownsRow base e size v n xs) (hb : base' ≤ base) : w.ownsRow base' e size v n xs := by
  refine ⟨h.1, ?_⟩
  rcases h.2 with h0 | ⟨g, cap, cur, h1, h2, h3⟩
  · exact .inl h0
  · exact .inr ⟨g, cap, cur, h1, Nat.le_trans hb h2, h3⟩
theorem own_on {w w' : World} {base : Nat} {e : TypeId} {size : Nat} {v : Value} {n : Nat} {xs : List Value} (h : w.ownsRow base e size v n xs) (hb : Below w.heap.size w w') : w'.ownsRow base e size v n xs := by
  refine ⟨h.1, ?_⟩
  rcases h.2 with h0 | ⟨g, cap, cur, h1, h2, h3, h4⟩
  · exact .inl h0
  · exact .inr ⟨g, cap, cur, h1, h2, blk_on h3 hb, h4⟩
end Go.Proofs.YtfkdhambbpkmpaaDoor
namespace Go.Proofs.YtfkdhambbpkmpaaDoor
open Go.RowKit
set_option linter.unusedVariables false
/-- Keys rise. -/
def RisesE (l : List En) : Prop := l.Pairwise (fun a b => kLt a.k b.k = true)
end Go.Proofs.YtfkdhambbpkmpaaDoor
namespace Go.Proofs.YtfkdhambbpkmpaaDoor
open Go.RowKit
set_option linter.unusedVariables false
/-- No entry. -/
def eZ : En := ⟨⟨#[]⟩, 0, 0, ⟨#[]⟩, false⟩
theorem chk_pos {e : En} (h : e.chk = 0) : 1 ≤ e.c ∧ e.k.size ≤ 16 ∧ 0 ≤ e.n := by
  unfold En.chk Vs.chk at h
  split at h
  · omega
  · split at h
    · omega
    · omega
/-- A list is a map. -/
structure MapL (l : List En) : Prop where
  rises : RisesE l
  chk : ∀ e ∈ l, e.chk = 0
theorem MapL.nil : MapL [] := ⟨List.Pairwise.nil, by simp⟩
theorem MapL.pos {l : List En} (h : MapL l) {e : En} (he : e ∈ l) : 1 ≤ e.c ∧ 0 ≤ e.n := ⟨(chk_pos (h.chk e he)).1, (chk_pos (h.chk e he)).2.2⟩
def firstE (T : Nat → En) (n : Nat) : List En := (List.range n).map T
theorem firstE_succ (T : Nat → En) (n : Nat) : firstE T (n + 1) = firstE T n ++ [T n] := by simp [firstE, List.range_succ]
theorem firstE_len (T : Nat → En) (n : Nat) : (firstE T n).length = n := by simp [firstE]
theorem firstE_get (T : Nat → En) {i n : Nat} (h : i < n) : (firstE T n)[i]? = some (T i) := by simp [firstE, h]
theorem firstE_nth (l : List En) : firstE (nthE l) l.length = l := by
  apply List.ext_getElem?
  intro i
  by_cases h : i < l.length
  · rw [firstE_get _ h, nthE_get h]
  · rw [List.getElem?_eq_none (by rw [firstE_len]; omega), List.getElem?_eq_none (by omega)]
theorem firstE_drop (T : Nat → En) {i n : Nat} (h : i < n) : (firstE T n).drop i = T i :: (firstE T n).drop (i + 1) := by
  have h1 := firstE_get T h
  rw [List.drop_eq_getElem_cons (by rw [firstE_len]; omega)]
  congr 1
  rw [List.getElem?_eq_getElem (by rw [firstE_len]; omega)] at h1
  injection h1
theorem firstE_end (T : Nat → En) {i n : Nat} (h : n ≤ i) : (firstE T n).drop i = [] := List.drop_eq_nil_of_le (by rw [firstE_len]; omega)
/-- What is wrong with entry i. -/
def ckAt (T : Nat → En) (i : Nat) : Int := if (T i).chk ≠ 0 then (T i).chk else if 0 < i ∧ kLt (T (i - 1)).k (T i).k = false then 90 else 0
/-- What is wrong first with n entries. -/
def ckN (T : Nat → En) : Nat → Int
  | 0 => 0
  | n + 1 => if ckN T n ≠ 0 then ckN T n else ckAt T n
theorem ckN_step {T : Nat → En} {n : Nat} (h : ckN T n = 0) : ckN T (n + 1) = ckAt T n := by unfold ckN; rw [if_neg (by simp [h])]
theorem ckN_stay {T : Nat → En} {n : Nat} (h : ckN T n ≠ 0) : ∀ m, n ≤ m → ckN T m = ckN T n := by
  intro m hm
  induction m with
  | zero => obtain rfl : n = 0 := by omega
            rfl
  | succ m ih =>
    by_cases e : n = m + 1
    · subst e; rfl
    · have := ih (by omega)
      show (if ckN T m ≠ 0 then ckN T m else ckAt T m) = _
      rw [if_pos (by rw [this]; exact h), this]
theorem ckN_bad {T : Nat → En} {i n : Nat} (h0 : ckN T i = 0) (hi : i < n) (h : ckAt T i ≠ 0) : ckN T n = ckAt T i := by
  have h1 := ckN_step h0
  rw [← h1] at h
  rw [ckN_stay h n (by omega), h1]
theorem ckAt_ent {T : Nat → En} {i : Nat} (h : (T i).chk ≠ 0) : ckAt T i = (T i).chk := by unfold ckAt; rw [if_pos h]
theorem ckAt_ord {T : Nat → En} {i : Nat} (h : (T i).chk = 0) (h2 : 0 < i ∧ kLt (T (i - 1)).k (T i).k = false) : ckAt T i = 90 := by unfold ckAt; rw [if_neg (by simp [h]), if_pos h2]
theorem ckAt_ok {T : Nat → En} {i : Nat} (h : (T i).chk = 0) (h2 : ¬ (0 < i ∧ kLt (T (i - 1)).k (T i).k = false)) : ckAt T i = 0 := by unfold ckAt; rw [if_neg (by simp [h]), if_neg h2]
theorem rises_snoc {l : List En} {x : En} : RisesE (l ++ [x]) ↔ RisesE l ∧ ∀ y ∈ l, kLt y.k x.k = true := by
  unfold RisesE
  rw [List.pairwise_append]
  simp
theorem ck_map {T : Nat → En} : ∀ n, ckN T n = 0 ↔ MapL (firstE T n)
  | 0 => ⟨fun _ => MapL.nil, fun _ => rfl⟩
  | n + 1 => by
    have ih := ck_map (T := T) n
    rw [firstE_succ]
    constructor
    · intro h
      have h0 : ckN T n = 0 := by
        apply Classical.byContradiction
        intro hn
        have := ckN_stay hn (n + 1) (by omega)
        rw [h] at this
        exact hn this.symm
      rw [ckN_step h0] at h
      have hm := ih.1 h0
      have hc : (T n).chk = 0 := by
        apply Classical.byContradiction
        intro hn
        rw [ckAt_ent hn] at h
        exact hn h
      have ho : ¬ (0 < n ∧ kLt (T (n - 1)).k (T n).k = false) := by
        intro hn
        rw [ckAt_ord hc hn] at h
        omega
      refine ⟨rises_snoc.2 ⟨hm.rises, ?_⟩, ?_⟩
      · intro y hy
        cases n with
        | zero => simp [firstE] at hy
        | succ m =>
          have hk : kLt (T m).k (T (m + 1)).k = true := by
            cases hq : kLt (T m).k (T (m + 1)).k
            · exact absurd ⟨by omega, hq⟩ ho
            · rfl
          rw [firstE_succ] at hy
          rcases List.mem_append.1 hy with hy | hy
          · have hr := hm.rises
            rw [firstE_succ] at hr
            exact kLt_trans ((rises_snoc.1 hr).2 y hy) hk
          · rw [List.mem_singleton] at hy
            subst hy
            exact hk
      · intro e he
        rcases List.mem_append.1 he with he | he
        · exact hm.chk e he
        · rw [List.mem_singleton] at he
          subst he
          exact hc
    · intro h
      have h0 : ckN T n = 0 := ih.2 ⟨(rises_snoc.1 h.rises).1, fun e he => h.chk e (List.mem_append_left _ he)⟩
      rw [ckN_step h0]
      refine ckAt_ok (h.chk _ (List.mem_append_right _ (List.mem_singleton.2 rfl))) ?_
      rintro ⟨hn, hk⟩
      have := (rises_snoc.1 h.rises).2 (T (n - 1)) (by simp only [firstE, List.mem_map, List.mem_range]; exact ⟨n - 1, by omega, rfl⟩)
      rw [hk] at this
      cases this
/-- Two maps side by side. -/
def prs : List En → List En → List (En × En)
  | [], [] => []
  | x :: r, [] => (x, eZ) :: prs r []
  | [], y :: s => (eZ, y) :: prs [] s
  | x :: r, y :: s => if kLt x.k y.k = true then (x, eZ) :: prs r (y :: s) else if kLt y.k x.k = true then (eZ, y) :: prs (x :: r) s else (x, y) :: prs r s
termination_by a b => a.length + b.length
theorem prs_nil : prs [] [] = [] := by unfold prs; rfl
theorem prs_left (x : En) (r : List En) : prs (x :: r) [] = (x, eZ) :: prs r [] := by rw [prs]
theorem prs_right (y : En) (s : List En) : prs [] (y :: s) = (eZ, y) :: prs [] s := by rw [prs]
theorem prs_lt {x y : En} (r s : List En) (h : kLt x.k y.k = true) : prs (x :: r) (y :: s) = (x, eZ) :: prs r (y :: s) := by rw [prs, if_pos h]
theorem prs_gt {x y : En} (r s : List En) (h : kLt x.k y.k = false) (h2 : kLt y.k x.k = true) : prs (x :: r) (y :: s) = (eZ, y) :: prs (x :: r) s := by rw [prs, if_neg (by simp [h]), if_pos h2]
theorem prs_eq {x y : En} (r s : List En) (h : kLt x.k y.k = false) (h2 : kLt y.k x.k = false) : prs (x :: r) (y :: s) = (x, y) :: prs r s := by rw [prs, if_neg (by simp [h]), if_neg (by simp [h2])]
theorem prs_len (a b : List En) : (prs a b).length ≤ a.length + b.length := by
  induction a, b using prs.induct with
  | case1 => simp [prs_nil]
  | case2 x r ih => rw [prs_left]; simp at *; omega
  | case3 y s ih => rw [prs_right]; simp at *; omega
  | case4 x r y s h ih => rw [prs_lt r s h]; simp at *; omega
  | case5 x r y s h h2 ih => rw [prs_gt r s (by simpa using h) h2]; simp at *; omega
  | case6 x r y s h h2 ih => rw [prs_eq r s (by simpa using h) (by simpa using h2)]; simp at *; omega
/-- What is among the pairs. -/
def InP (a b : List En) (p : En × En) : Prop :=
  (p.1 ∈ a ∧ p.2 ∈ b ∧ p.1.k = p.2.k) ∨ (p.1 ∈ a ∧ p.2 = eZ ∧ ∀ y ∈ b, y.k ≠ p.1.k) ∨ (p.1 = eZ ∧ p.2 ∈ b ∧ ∀ x ∈ a, x.k ≠ p.2.k)
theorem rises_consE {x : En} {l : List En} : RisesE (x :: l) ↔ (∀ y ∈ l, kLt x.k y.k = true) ∧ RisesE l := by unfold RisesE; exact List.pairwise_cons
theorem rises_ne {x : En} {l : List En} (h : RisesE (x :: l)) : ∀ y ∈ l, y.k ≠ x.k := fun y hy e => kLt_ne ((rises_consE.1 h).1 y hy) e.symm
theorem low_ne {x y : En} {s : List En} (h : kLt x.k y.k = true) (hs : RisesE (y :: s)) : ∀ z ∈ y :: s, z.k ≠ x.k := by
  intro z hz e
  rcases List.mem_cons.1 hz with rfl | hz
  · exact kLt_ne h e.symm
  · exact kLt_ne (kLt_trans h ((rises_consE.1 hs).1 z hz)) e.symm
theorem mem_prs (a b : List En) : RisesE a → RisesE b → ∀ p, p ∈ prs a b ↔ InP a b p := by
  induction a, b using prs.induct with
  | case1 => intro _ _ p; simp [prs_nil, InP]
  | case2 x r ih =>
    intro ha hb p
    have i := ih (rises_consE.1 ha).2 hb p
    rw [prs_left, List.mem_cons, i]
    unfold InP
    constructor
    · rintro (rfl | ⟨h1, h2, h3⟩ | ⟨h1, h2, h3⟩ | ⟨h1, h2, h3⟩)
      · exact .inr (.inl ⟨List.mem_cons_self, rfl, by simp⟩)
      · simp at h2
      · exact .inr (.inl ⟨List.mem_cons_of_mem _ h1, h2, by simp⟩)
      · simp at h2
    · rintro (⟨h1, h2, h3⟩ | ⟨h1, h2, h3⟩ | ⟨h1, h2, h3⟩)
      · simp at h2
      · rcases List.mem_cons.1 h1 with e | h1
        · exact .inl (Prod.ext e h2)
        · exact .inr (.inr (.inl ⟨h1, h2, by simp⟩))
      · simp at h2
  | case3 y s ih =>
    intro ha hb p
    have i := ih ha (rises_consE.1 hb).2 p
    rw [prs_right, List.mem_cons, i]
    unfold InP
    constructor
    · rintro (rfl | ⟨h1, h2, h3⟩ | ⟨h1, h2, h3⟩ | ⟨h1, h2, h3⟩)
      · exact .inr (.inr ⟨rfl, List.mem_cons_self, by simp⟩)
      · simp at h1
      · simp at h1
      · exact .inr (.inr ⟨h1, List.mem_cons_of_mem _ h2, by simp⟩)
    · rintro (⟨h1, h2, h3⟩ | ⟨h1, h2, h3⟩ | ⟨h1, h2, h3⟩)
      · simp at h1
      · simp at h1
      · rcases List.mem_cons.1 h2 with e | h2
        · exact .inl (Prod.ext h1 e)
        · exact .inr (.inr (.inr ⟨h1, h2, by simp⟩))
  | case4 x r y s h ih =>
    intro ha hb p
    have i := ih (rises_consE.1 ha).2 hb p
    have f := low_ne h hb
    rw [prs_lt r s h, List.mem_cons, i]
    unfold InP
    constructor
    · rintro (rfl | ⟨h1, h2, h3⟩ | ⟨h1, h2, h3⟩ | ⟨h1, h2, h3⟩)
      · exact .inr (.inl ⟨List.mem_cons_self, rfl, f⟩)
      · exact .inl ⟨List.mem_cons_of_mem _ h1, h2, h3⟩
      · exact .inr (.inl ⟨List.mem_cons_of_mem _ h1, h2, h3⟩)
      · refine .inr (.inr ⟨h1, h2, fun z hz => ?_⟩)
        rcases List.mem_cons.1 hz with rfl | hz
        · exact fun e => f _ h2 e.symm
        · exact h3 z hz
    · rintro (⟨h1, h2, h3⟩ | ⟨h1, h2, h3⟩ | ⟨h1, h2, h3⟩)
      · rcases List.mem_cons.1 h1 with e | h1
        · exact absurd (e ▸ h3.symm) (f _ h2)
        · exact .inr (.inl ⟨h1, h2, h3⟩)
      · rcases List.mem_cons.1 h1 with e | h1
        · exact .inl (Prod.ext e h2)
        · exact .inr (.inr (.inl ⟨h1, h2, h3⟩))
      · exact .inr (.inr (.inr ⟨h1, h2, fun z hz => h3 z (List.mem_cons_of_mem _ hz)⟩))
  | case5 x r y s h h' ih =>
    intro ha hb p
    have i := ih ha (rises_consE.1 hb).2 p
    have f := low_ne h' ha
    rw [prs_gt r s (by simpa using h) h', List.mem_cons, i]
    unfold InP
    constructor
    · rintro (rfl | ⟨h1, h2, h3⟩ | ⟨h1, h2, h3⟩ | ⟨h1, h2, h3⟩)
      · exact .inr (.inr ⟨rfl, List.mem_cons_self, f⟩)
      · exact .inl ⟨h1, List.mem_cons_of_mem _ h2, h3⟩
      · refine .inr (.inl ⟨h1, h2, fun z hz => ?_⟩)
        rcases List.mem_cons.1 hz with rfl | hz
        · exact fun e => f _ h1 e.symm
        · exact h3 z hz
      · exact .inr (.inr ⟨h1, List.mem_cons_of_mem _ h2, h3⟩)
    · rintro (⟨h1, h2, h3⟩ | ⟨h1, h2, h3⟩ | ⟨h1, h2, h3⟩)
      · rcases List.mem_cons.1 h2 with e | h2
        · exact absurd (e ▸ h3) (f _ h1)
        · exact .inr (.inl ⟨h1, h2, h3⟩)
      · exact .inr (.inr (.inl ⟨h1, h2, fun z hz => h3 z (List.mem_cons_of_mem _ hz)⟩))
      · rcases List.mem_cons.1 h2 with e | h2
        · exact .inl (Prod.ext h1 e)
        · exact .inr (.inr (.inr ⟨h1, h2, h3⟩))
  | case6 x r y s h h' ih =>
    intro ha hb p
    have i := ih (rises_consE.1 ha).2 (rises_consE.1 hb).2 p
    have hk : x.k = y.k := kLt_total (by simpa using h) (by simpa using h')
    have f1 := rises_ne ha
    have f2 := rises_ne hb
    rw [prs_eq r s (by simpa using h) (by simpa using h'), List.mem_cons, i]
    unfold InP
    constructor
    · rintro (rfl | ⟨h1, h2, h3⟩ | ⟨h1, h2, h3⟩ | ⟨h1, h2, h3⟩)
      · exact .inl ⟨List.mem_cons_self, List.mem_cons_self, hk⟩
      · exact .inl ⟨List.mem_cons_of_mem _ h1, List.mem_cons_of_mem _ h2, h3⟩
      · refine .inr (.inl ⟨List.mem_cons_of_mem _ h1, h2, fun z hz => ?_⟩)
        rcases List.mem_cons.1 hz with rfl | hz
        · exact fun e => f1 _ h1 (e.symm.trans hk.symm)
        · exact h3 z hz
      · refine .inr (.inr ⟨h1, List.mem_cons_of_mem _ h2, fun z hz => ?_⟩)
        rcases List.mem_cons.1 hz with rfl | hz
        · exact fun e => f2 _ h2 (e.symm.trans hk)
        · exact h3 z hz
    · rintro (⟨h1, h2, h3⟩ | ⟨h1, h2, h3⟩ | ⟨h1, h2, h3⟩)
      · rcases List.mem_cons.1 h1 with e | h1 <;> rcases List.mem_cons.1 h2 with e2 | h2
        · exact .inl (Prod.ext e e2)
        · exact absurd (h3.symm.trans ((congrArg En.k e).trans hk)) (f2 _ h2)
        · exact absurd (h3.trans ((congrArg En.k e2).trans hk.symm)) (f1 _ h1)
        · exact .inr (.inl ⟨h1, h2, h3⟩)
      · rcases List.mem_cons.1 h1 with e | h1
        · exact absurd (hk.symm.trans (congrArg En.k e).symm) (h3 y List.mem_cons_self)
        · exact .inr (.inr (.inl ⟨h1, h2, fun z hz => h3 z (List.mem_cons_of_mem _ hz)⟩))
      · rcases List.mem_cons.1 h2 with e | h2
        · exact absurd (hk.trans (congrArg En.k e).symm) (h3 x List.mem_cons_self)
        · exact .inr (.inr (.inr ⟨h1, h2, fun z hz => h3 z (List.mem_cons_of_mem _ hz)⟩))
/-- Two entries' versions differ. -/
def vNe (p : En × En) : Bool := !((p.1.c == p.2.c) && (p.1.n == p.2.n))
theorem best_pick (x y : En) : (En.best x y = y ∧ En.newer y x = true) ∨ (En.best x y = x ∧ En.newer y x = false) := by
  unfold En.best
  cases En.newer y x
  · exact .inr ⟨rfl, rfl⟩
  · exact .inl ⟨rfl, rfl⟩
theorem newer_z {x : En} (h : 1 ≤ x.c ∧ 0 ≤ x.n) : En.newer eZ x = false ∧ En.newer x eZ = true := by
  constructor
  · rw [newer_not]; simp [eZ]; omega
  · rw [newer_iff]; simp [eZ]; omega
theorem best_zr {x : En} (h : 1 ≤ x.c ∧ 0 ≤ x.n) : En.best x eZ = x := by unfold En.best; rw [(newer_z h).1]; rfl
theorem best_zl {x : En} (h : 1 ≤ x.c ∧ 0 ≤ x.n) : En.best eZ x = x := by unfold En.best; rw [(newer_z h).2]; rfl
end Go.Proofs.YtfkdhambbpkmpaaDoor
namespace Go.Proofs.YtfkdhambbpkmpaaDoor
open Go.RowKit
set_option linter.unusedVariables false
/-- An owned row's slice, in letters. -/
theorem own_slice {w : World} {B : Nat} {e : TypeId} {s : Nat} {v : Value} {n : Nat} {xs : List Value} (h : w.ownsRow B e s v n xs) : ∃ a c, v = .slice a n c ∧ n ≤ c ∧ c ≤ maxLen ∧ ((a = none ∧ n = 0 ∧ c = 0) ∨ ∃ g, a = some ⟨g, 0, none⟩ ∧ B ≤ g) := by
  rcases h.2 with ⟨rfl, rfl⟩ | ⟨g, cap, cur, rfl, hb, _, hn, hm, _⟩
  · exact ⟨none, 0, rfl, Nat.le_refl _, Nat.zero_le _, .inl ⟨rfl, rfl, rfl⟩⟩
  · exact ⟨_, cap, rfl, hn, hm, .inr ⟨g, rfl, hb⟩⟩
theorem entCells_put : ∀ (l : List En) (j : Nat) (e : En), j < l.length → (((((entCells l).set (j * 5) (.string e.k)).set (j * 5 + 1) (.int .i64 e.c)).set (j * 5 + 2) (.int .i64 e.n)).set (j * 5 + 3) (.string e.v)).set (j * 5 + 4) (.bool e.d) = entCells (l.set j e)
  | [], j, e, h => by simp at h
  | x :: t, 0, e, h => by simp [entCells, entVals]
  | x :: t, j + 1, e, h => by
    have ih := entCells_put t j e (by simpa using h)
    simp only [entCells, List.set_cons_succ]
    rw [List.set_append_right _ _ (by simp [entVals]; omega), List.set_append_right _ _ (by simp [entVals]; omega), List.set_append_right _ _ (by simp [entVals]; omega), List.set_append_right _ _ (by simp [entVals]; omega), List.set_append_right _ _ (by simp [entVals]; omega)]
    simp only [show (entVals x).length = 5 from rfl]
    rw [show (j + 1) * 5 - 5 = j * 5 from by omega, show (j + 1) * 5 + 1 - 5 = j * 5 + 1 from by omega, show (j + 1) * 5 + 2 - 5 = j * 5 + 2 from by omega, show (j + 1) * 5 + 3 - 5 = j * 5 + 3 from by omega, show (j + 1) * 5 + 4 - 5 = j * 5 + 4 from by omega, ih]
/-- An entry stored into an owned row. -/
theorem own_put {w : World} {B g n cap j : Nat} {l : List En} (h : w.ownsRow B 55 5 (.slice (some ⟨g, 0, none⟩) n cap) n (entCells l)) (e : En) (hj : j < l.length) :
    (((((w.setCell ⟨g, j * 5, none⟩ (.string e.k)).setCell ⟨g, j * 5 + 1, none⟩ (.int .i64 e.c)).setCell ⟨g, j * 5 + 2, none⟩ (.int .i64 e.n)).setCell ⟨g, j * 5 + 3, none⟩ (.string e.v)).setCell ⟨g, j * 5 + 4, none⟩ (.bool e.d)).ownsRow B 55 5 (.slice (some ⟨g, 0, none⟩) n cap) n (entCells (l.set j e)) := by
  rw [← entCells_put l j e hj]
  exact (((((h.stored (j * 5) _).1.stored (j * 5 + 1) _).1.stored (j * 5 + 2) _).1.stored (j * 5 + 3) _).1.stored (j * 5 + 4) _).1
end Go.Proofs.YtfkdhambbpkmpaaDoor
namespace Go.Proofs.YtfkdhambbpkmpaaDoor
open Go.RowKit
set_option linter.unusedVariables false
/-- What came so far, with what is still to come, is all. -/
def PS (A : Nat → En) (la : Nat) (B : Nat → En) (lb : Nat) (pre : List (En × En)) (i j : Nat) : Prop :=
  pre ++ prs ((firstE A la).drop i) ((firstE B lb).drop j) = prs (firstE A la) (firstE B lb)
theorem PS.start (A : Nat → En) (la : Nat) (B : Nat → En) (lb : Nat) : PS A la B lb [] 0 0 := rfl
theorem PS.left {A : Nat → En} {la : Nat} {B : Nat → En} {lb : Nat} {pre : List (En × En)} {i j : Nat} (h : PS A la B lb pre i j) (hi : i < la) (hj : lb ≤ j) : PS A la B lb (pre ++ [(A i, eZ)]) (i + 1) j := by
  unfold PS at *
  rw [firstE_drop A hi, firstE_end B hj, prs_left] at h
  rw [firstE_end B hj, List.append_assoc]
  exact h
theorem PS.right {A : Nat → En} {la : Nat} {B : Nat → En} {lb : Nat} {pre : List (En × En)} {i j : Nat} (h : PS A la B lb pre i j) (hi : la ≤ i) (hj : j < lb) : PS A la B lb (pre ++ [(eZ, B j)]) i (j + 1) := by
  unfold PS at *
  rw [firstE_drop B hj, firstE_end A hi, prs_right] at h
  rw [firstE_end A hi, List.append_assoc]
  exact h
theorem PS.lt {A : Nat → En} {la : Nat} {B : Nat → En} {lb : Nat} {pre : List (En × En)} {i j : Nat} (h : PS A la B lb pre i j) (hi : i < la) (hj : j < lb) (hk : kLt (A i).k (B j).k = true) : PS A la B lb (pre ++ [(A i, eZ)]) (i + 1) j := by
  unfold PS at *
  rw [firstE_drop A hi, firstE_drop B hj, prs_lt _ _ hk, ← firstE_drop B hj] at h
  rw [List.append_assoc]
  exact h
theorem PS.gt {A : Nat → En} {la : Nat} {B : Nat → En} {lb : Nat} {pre : List (En × En)} {i j : Nat} (h : PS A la B lb pre i j) (hi : i < la) (hj : j < lb) (hk : kLt (A i).k (B j).k = false) (hk2 : kLt (B j).k (A i).k = true) : PS A la B lb (pre ++ [(eZ, B j)]) i (j + 1) := by
  unfold PS at *
  rw [firstE_drop A hi, firstE_drop B hj, prs_gt _ _ hk hk2, ← firstE_drop A hi] at h
  rw [List.append_assoc]
  exact h
theorem PS.eq {A : Nat → En} {la : Nat} {B : Nat → En} {lb : Nat} {pre : List (En × En)} {i j : Nat} (h : PS A la B lb pre i j) (hi : i < la) (hj : j < lb) (hk : kLt (A i).k (B j).k = false) (hk2 : kLt (B j).k (A i).k = false) : PS A la B lb (pre ++ [(A i, B j)]) (i + 1) (j + 1) := by
  unfold PS at *
  rw [firstE_drop A hi, firstE_drop B hj, prs_eq _ _ hk hk2] at h
  rw [List.append_assoc]
  exact h
theorem PS.done {A : Nat → En} {la : Nat} {B : Nat → En} {lb : Nat} {pre : List (En × En)} {i j : Nat} (h : PS A la B lb pre i j) (hi : la ≤ i) (hj : lb ≤ j) : pre = prs (firstE A la) (firstE B lb) := by
  unfold PS at h
  rw [firstE_end A hi, firstE_end B hj, prs_nil, List.append_nil] at h
  exact h
theorem PS.part {A : Nat → En} {la : Nat} {B : Nat → En} {lb : Nat} {pre : List (En × En)} {i j : Nat} (h : PS A la B lb pre i j) : ∃ r, pre ++ r = prs (firstE A la) (firstE B lb) := ⟨_, h⟩
/-- A pair's cells. -/
def prVals (p : En × En) : List Value := entVals p.1 ++ entVals p.2
def prCells : List (En × En) → List Value
  | [] => []
  | p :: r => prVals p ++ prCells r
theorem prCells_length : ∀ l : List (En × En), (prCells l).length = l.length * 10
  | [] => rfl
  | e :: r => by simp only [prCells, List.length_append, prCells_length r, List.length_cons, prVals, entVals]; simp; omega
theorem prCells_append : ∀ l m : List (En × En), prCells (l ++ m) = prCells l ++ prCells m
  | [], _ => rfl
  | e :: r, m => by simp [prCells, prCells_append r m]
theorem prCells_one (l : List (En × En)) : ∀ u ∈ prCells l, u.oneCell' = true := by
  induction l with
  | nil => intro u hu; simp [prCells] at hu
  | cons e r ih =>
    intro u hu
    simp only [prCells, List.mem_append] at hu
    rcases hu with hu | hu
    · simp [prVals, entVals] at hu
      rcases hu with rfl | rfl | rfl | rfl | rfl | rfl | rfl | rfl | rfl | rfl <;> rfl
    · exact ih u hu
theorem prCells_at : ∀ (l : List (En × En)) (i r : Nat) (p : En × En), l[i]? = some p → r < 10 → (prCells l)[i * 10 + r]? = (prVals p)[r]?
  | [], i, r, e, h, _ => by simp at h
  | x :: t, 0, r, e, h, hr => by
    simp at h; subst h
    simp only [prCells]
    rw [List.getElem?_append_left (by simp [prVals, entVals]; omega)]
    simp
  | x :: t, i + 1, r, e, h, hr => by
    simp only [prCells]
    rw [List.getElem?_append_right (by simp [prVals, entVals]; omega)]
    have := prCells_at t i r e (by simpa using h) hr
    rw [← this]
    congr 1
    simp [prVals, entVals]
    omega
theorem infoPr : (Tryd.prog.info? 77).map (fun i => (i.zero, i.size, i.bytes)) = some (some (.agg #[.string ⟨#[]⟩, .int .i64 0, .int .i64 0, .string ⟨#[]⟩, .bool false, .string ⟨#[]⟩, .int .i64 0, .int .i64 0, .string ⟨#[]⟩, .bool false]), 10, 112) := by kernel_rfl
/-- One pair appended to an owned row, as one operation. -/
theorem op_append_pr {w : World} {o : Oper} {act : Act} {K : Act → World → Prop} {Q : Exit → Act → World → Prop} (s x : Operand)
    (ho : o.op = .call { callee := .builtin .append, args := #[s, x], argTypes := #[73, 73] })
    (B n : Nat) (v : Value) (l : List (En × En)) (hs : act.eval s = v) (hown : w.ownsRow B 77 10 v n (prCells l)) (b c : Nat) (p : En × En) (hx : act.eval x = .slice (some ⟨b, 0, none⟩) 1 c)
    (hb : w.heap[b]? = some (.cells #[.string p.1.k, .int .i64 p.1.c, .int .i64 p.1.n, .string p.1.v, .bool p.1.d, .string p.2.k, .int .i64 p.2.c, .int .i64 p.2.n, .string p.2.v, .bool p.2.d] 77 (0, 0))) (hlen : n * 112 ≤ 140737488351232) (hB : B ≤ w.heap.size)
    (h : ∀ g cap w', w'.ownsRow B 77 10 (.slice (some ⟨g, 0, none⟩) (n + 1) cap) (n + 1) (prCells (l ++ [p])) → w.grownBy w' v.ownBlock → K (act.put o.dst (.slice (some ⟨g, 0, none⟩) (n + 1) cap)) w') : o.wp Tryd.prog act w K Q := by
  obtain ⟨i0, hi, hz0, hz1, hz2⟩ := info_parts infoPr
  refine wp_append_own w s x _ ho B 77 i0 _ 10 112 Tryd.underlying73 hi hz0 hz1 hz2 rfl (by decide) _ _ _ hs hown ⟨b, 0, none⟩ 1 c (prVals p) hx rfl ?_ (fun u hu => prCells_one [p] u (by simpa [prCells] using hu)) (by unfold maxLen; omega) (by omega) hB ?_
  · exact World.news_of_block (cs := #[.string p.1.k, .int .i64 p.1.c, .int .i64 p.1.n, .string p.1.v, .bool p.1.d, .string p.2.k, .int .i64 p.2.c, .int .i64 p.2.n, .string p.2.v, .bool p.2.d]) (t := 77) (fr := (0, 0)) hb
  · intro v' w' ho' hg _
    have e1 : prCells l ++ prVals p = prCells (l ++ [p]) := by rw [prCells_append]; simp [prCells]
    rw [e1] at ho'
    rcases ho'.2 with ⟨h1, h2⟩ | ⟨g, cap', cur, rfl, _⟩
    · omega
    · exact h g cap' w' ho' hg
theorem own_emptyPr (w : World) (B : Nat) (h : B ≤ w.heap.size) : (w.alloc (.cells #[] 77)).ownsRow B 77 10 (.slice (some ⟨w.heap.size, 0, none⟩) 0 0) 0 (prCells []) := by
  refine ⟨rfl, .inr ⟨w.heap.size, 0, #[], rfl, h, heap_alloc_new w _, Nat.le_refl _, Nat.zero_le _, rfl, rfl⟩⟩
/-- The cells of pair i of an owned row. -/
theorem pr_cells {w : World} {B g cap n : Nat} {l : List (En × En)} (h : w.ownsRow B 77 10 (.slice (some ⟨g, 0, none⟩) n cap) n (prCells l)) {i : Nat} {p : En × En} (hi : l[i]? = some p) :
    (w.cell? ⟨g, i * 10, none⟩ = some (.string p.1.k) ∧ w.cell? ⟨g, i * 10 + 1, none⟩ = some (.int .i64 p.1.c) ∧ w.cell? ⟨g, i * 10 + 2, none⟩ = some (.int .i64 p.1.n) ∧ w.cell? ⟨g, i * 10 + 3, none⟩ = some (.string p.1.v) ∧ w.cell? ⟨g, i * 10 + 4, none⟩ = some (.bool p.1.d)) ∧
    (w.cell? ⟨g, i * 10 + 5, none⟩ = some (.string p.2.k) ∧ w.cell? ⟨g, i * 10 + 6, none⟩ = some (.int .i64 p.2.c) ∧ w.cell? ⟨g, i * 10 + 7, none⟩ = some (.int .i64 p.2.n) ∧ w.cell? ⟨g, i * 10 + 8, none⟩ = some (.string p.2.v) ∧ w.cell? ⟨g, i * 10 + 9, none⟩ = some (.bool p.2.d)) := by
  have hl : l.length = n := by have := h.1; rw [prCells_length] at this; omega
  have hin := (List.getElem?_eq_some_iff.1 hi).1
  have c : ∀ r, r < 10 → w.cell? ⟨g, i * 10 + r, none⟩ = (prVals p)[r]? := fun r hr => by
    rw [h.cellAt (i * 10 + r) (by omega), prCells_at l i r _ hi hr]
  exact ⟨⟨by simpa [prVals, entVals] using c 0 (by omega), by simpa [prVals, entVals] using c 1 (by omega), by simpa [prVals, entVals] using c 2 (by omega), by simpa [prVals, entVals] using c 3 (by omega), by simpa [prVals, entVals] using c 4 (by omega)⟩,
    by simpa [prVals, entVals] using c 5 (by omega), by simpa [prVals, entVals] using c 6 (by omega), by simpa [prVals, entVals] using c 7 (by omega), by simpa [prVals, entVals] using c 8 (by omega), by simpa [prVals, entVals] using c 9 (by omega)⟩
end Go.Proofs.YtfkdhambbpkmpaaDoor

/-
  Rows of entries that a call owns: their cells, copies by append, one entry appended.
-/
import Derived.Test.YtpbkjffiohfkcaaGreatDoorBt15
import Derived.OwnWalk
import Derived.Laws.OwnMore
import Derived.Test.YtpbkjffiohfkcaaGreatDoorBt2
import Derived.Deep.RegionHeld
import Derived.Maps.AppendAt
import Derived.Test.YtpbkjffiohfkcaaGreatDoorBt1
namespace Go.Proofs.YtpbkjffiohfkcaaGreatDoor
open Go.RowKit
set_option linter.unusedVariables false
def entVals (e : En) : List Value := [.string e.k, .int .i64 e.c, .int .i64 e.n, .string e.v, .bool e.d]
def entCells : List En → List Value
 | [] => []
 | e :: r => entVals e ++ entCells r
theorem entCells_length : ∀ l : List En, (entCells l).length = l.length * 5
 | [] => rfl
 | e :: r => by simp only [entCells, List.length_append, entCells_length r, List.length_cons, entVals]; simp; omega
theorem entCells_append : ∀ l m : List En, entCells (l ++ m) = entCells l ++ entCells m
 | [], _ => rfl
 | e :: r, m => by simp [entCells, entCells_append r m]
theorem entCells_at : ∀ (l : List En) (i r : Nat) (e : En), l[i]? = some e → r < 5 → (entCells l)[i * 5 + r]? = (entVals e)[r]?
 | [], i, r, e, h, _ => by simp at h
 | x :: t, 0, r, e, h, hr => by
  simp at h; subst h
  simp only [entCells]
  rw [List.getElem?_append_left (by simp [entVals]; omega)]
  simp
 | x :: t, i + 1, r, e, h, hr => by
  simp only [entCells]
  rw [List.getElem?_append_right (by simp [entVals]; omega)]
  have := entCells_at t i r e (by simpa using h) hr
  rw [← this]
  congr 1
  simp [entVals]
  omega
theorem entCells_one (l : List En) : ∀ u ∈ entCells l, u.oneCell' = true := by
 induction l with
 | nil => intro u hu; simp [entCells] at hu
 | cons e r ih =>
  intro u hu
  simp only [entCells, List.mem_append] at hu
  rcases hu with hu | hu
  ·simp [entVals] at hu
   rcases hu with rfl | rfl | rfl | rfl | rfl <;> rfl
  ·exact ih u hu
theorem infoEnt : (Tryz.prog.info? 77).map (fun i => (i.zero, i.size, i.bytes)) = some (some (.agg #[.string ⟨#[]⟩, .int .i64 0, .int .i64 0, .string ⟨#[]⟩, .bool false]), 5, 56) := by kernel_rfl
def nthE (l : List En) (i : Nat) : En := l.getD i ⟨⟨#[]⟩, 0, 0, ⟨#[]⟩, false⟩
theorem nthE_get {l : List En} {i : Nat} (h : i < l.length) : l[i]? = some (nthE l i) := by
 unfold nthE; rw [List.getD, List.getElem?_eq_getElem h]; rfl
def KeysOk (l : List En) : Prop := ∀ e ∈ l, e.k.size ≤ 140737488351232
theorem row_cells {w : World} {B g cap n : Nat} {l : List En} (h : w.ownsRow B 77 5 (.slice (some ⟨g, 0, none⟩) n cap) n (entCells l)) {i : Nat} (hi : i < l.length) :
    w.cell? ⟨g, i * 5, none⟩ = some (.string (nthE l i).k) ∧ w.cell? ⟨g, i * 5 + 1, none⟩ = some (.int .i64 (nthE l i).c) ∧ w.cell? ⟨g, i * 5 + 2, none⟩ = some (.int .i64 (nthE l i).n) ∧ w.cell? ⟨g, i * 5 + 3, none⟩ = some (.string (nthE l i).v) ∧ w.cell? ⟨g, i * 5 + 4, none⟩ = some (.bool (nthE l i).d) := by
 have hn : l.length = n := by have := h.1; rw [entCells_length] at this; omega
 have e := nthE_get hi
 have c : ∀ r, r < 5 → w.cell? ⟨g, i * 5 + r, none⟩ = (entVals (nthE l i))[r]? := fun r hr => by
  rw [h.cellAt (i * 5 + r) (by omega), entCells_at l i r _ e hr]
 exact ⟨by simpa [entVals] using c 0 (by omega), by simpa [entVals] using c 1 (by omega), by simpa [entVals] using c 2 (by omega), by simpa [entVals] using c 3 (by omega), by simpa [entVals] using c 4 (by omega)⟩
theorem row_max {w : World} {B g cap n : Nat} {xs : List Value} {e s : Nat} (h : w.ownsRow B e s (.slice (some ⟨g, 0, none⟩) n cap) n xs) : n ≤ cap ∧ cap ≤ maxLen := by
 rcases h.2 with ⟨h, _⟩ | ⟨g', cap', cur, h1, h2, h3, h4, h5, h6⟩
 ·cases h
 ·injection h1 with e1 e2 e3
  omega
theorem ents_of_row {w : World} {B g cap n : Nat} {l : List En} (h : w.ownsRow B 77 5 (.slice (some ⟨g, 0, none⟩) n cap) n (entCells l)) (hk : KeysOk l) {o m c : Nat} (hm : o + m ≤ n) (hc : m ≤ c) (hx : c ≤ maxLen) {a : Option Addr} (ha : m = 0 ∨ a = some ⟨g, o * 5, none⟩) :
    EntsIn w a m c (fun i => nthE l (o + i)) := by
 have hn : l.length = n := by have := h.1; rw [entCells_length] at this; omega
 refine ⟨hc, hx, ?_⟩
 rcases ha with ha | rfl
 ·exact .inl ha
 ·refine .inr ⟨g, o * 5, rfl, (h.lt g rfl).2, fun i hi => ⟨?_, hk _ ?_⟩⟩
  ·have := row_cells h (i := o + i) (by omega)
   rw [show (o + i) * 5 = o * 5 + i * 5 from by omega] at this
   exact this
  ·have := nthE_get (l := l) (i := o + i) (by omega)
   exact List.mem_of_getElem? this
theorem ents_cells {w : World} {y : Addr} {len cap : Nat} {T : Nat → En} (h : EntsIn w (some y) len cap T) : ∀ j u, (entCells ((List.range len).map T))[j]? = some u → w.cell? (y.add j) = some u := by
 intro j u hj
 have hjl : j < len * 5 := by
  have := (List.getElem?_eq_some_iff.1 hj).1
  rw [entCells_length] at this
  simpa using this
 rcases h.2.2 with h0 | ⟨b, off, hy, hb, hc⟩
 ·omega
 ·injection hy with hy
  subst hy
  obtain ⟨⟨c0, c1, c2, c3, c4⟩, -⟩ := hc (j / 5) (by omega)
  have hat := entCells_at ((List.range len).map T) (j / 5) (j % 5) (T (j / 5)) (by rw [List.getElem?_map, List.getElem?_range (by omega)]; rfl) (by omega)
  rw [show j / 5 * 5 + j % 5 = j from by omega] at hat
  rw [hat] at hj
  rw [Addr.add_lit, show off + j = off + j / 5 * 5 + j % 5 from by omega]
  have hr : j % 5 < 5 := by omega
  generalize j % 5 = r at *
  match r, hr with
  | 0, _ => simp [entVals] at hj; subst hj; exact c0
  | 1, _ => simp [entVals] at hj; subst hj; exact c1
  | 2, _ => simp [entVals] at hj; subst hj; exact c2
  | 3, _ => simp [entVals] at hj; subst hj; exact c3
  | 4, _ => simp [entVals] at hj; subst hj; exact c4
theorem op_append_copy {w : World} {o : Oper} {act : Act} {K : Act → World → Prop} {Q : Exit → Act → World → Prop} (s x : Operand)
    (ho : o.op = .call { callee := .builtin .append, args := #[s, x], argTypes := #[22, 22] })
    (hs : act.eval s = .slice none 0 0) (a : Option Addr) (len cap : Nat) (T : Nat → En) (hx : act.eval x = .slice a len cap) (hL : EntsIn w a len cap T)
    (hform : (a = none ∧ len = 0 ∧ cap = 0) ∨ ∃ y, a = some y) (hlen : len * 56 ≤ 140737488351232)
    (h : ∀ v' w', w'.ownsRow w.heap.size 77 5 v' len (entCells ((List.range len).map T)) → Below w.heap.size w w' → K (act.put o.dst v') w') : o.wp Tryz.prog act w K Q := by
 obtain ⟨i0, hi, hz0, hz1, hz2⟩ := info_parts infoEnt
 have hnil : w.ownsRow w.heap.size 77 5 (.slice none 0 0) 0 [] := World.ownsRow_nil _ _ _ _
 rcases hform with ⟨rfl, rfl, rfl⟩ | ⟨y, rfl⟩
 ·have hrun := run_append_owned_none (P := Tryz.prog) (w := w) w.heap.size 22 o.type 77 i0 5 Tryz.underlying22 hi _ _ _ hnil
  unfold Oper.wp
  simp [execOp, ho, resolve, invoke, builtin, hs, hx, hrun, Result.andThen]
  exact h _ w hnil (Below.refl _ _)
 ·refine wp_append_own w s x _ ho w.heap.size 77 i0 _ 5 56 Tryz.underlying22 hi hz0 hz1 hz2 rfl (by decide) _ _ _ hs hnil y len cap (entCells ((List.range len).map T)) hx (by rw [entCells_length]; simp) (ents_cells hL) (entCells_one _) (by unfold maxLen; omega) (by omega) (Nat.le_refl _) ?_
  intro v' w' ho' hg _
  have hbel : Below w.heap.size w w' := (Below.refl _ w).grown hg (Nat.le_refl _) (fun k e => by cases e)
  simp only [Nat.zero_add, List.nil_append] at ho'
  exact h v' w' ho' hbel
theorem op_append_ent {w : World} {o : Oper} {act : Act} {K : Act → World → Prop} {Q : Exit → Act → World → Prop} (s x : Operand)
    (ho : o.op = .call { callee := .builtin .append, args := #[s, x], argTypes := #[22, 22] })
    (B n : Nat) (v : Value) (l : List En) (hs : act.eval s = v) (hown : w.ownsRow B 77 5 v n (entCells l)) (b c : Nat) (e : En) (hx : act.eval x = .slice (some ⟨b, 0, none⟩) 1 c)
    (hb : w.heap[b]? = some (.cells #[.string e.k, .int .i64 e.c, .int .i64 e.n, .string e.v, .bool e.d] 77 (0, 0))) (hlen : n * 56 ≤ 140737488351232) (hB : B ≤ w.heap.size)
    (h : ∀ g cap w', w'.ownsRow B 77 5 (.slice (some ⟨g, 0, none⟩) (n + 1) cap) (n + 1) (entCells (l ++ [e])) → w.grownBy w' v.ownBlock → K (act.put o.dst (.slice (some ⟨g, 0, none⟩) (n + 1) cap)) w') : o.wp Tryz.prog act w K Q := by
 obtain ⟨i0, hi, hz0, hz1, hz2⟩ := info_parts infoEnt
 refine wp_append_own w s x _ ho B 77 i0 _ 5 56 Tryz.underlying22 hi hz0 hz1 hz2 rfl (by decide) _ _ _ hs hown ⟨b, 0, none⟩ 1 c (entVals e) hx rfl ?_ (fun u hu => entCells_one [e] u (by simpa [entCells] using hu)) (by unfold maxLen; omega) (by omega) hB ?_
 ·exact World.news_of_block (cs := #[.string e.k, .int .i64 e.c, .int .i64 e.n, .string e.v, .bool e.d]) (t := 77) (fr := (0, 0)) hb
 ·intro v' w' ho' hg _
  have e1 : entCells l ++ entVals e = entCells (l ++ [e]) := by rw [entCells_append]; simp [entCells]
  rw [e1] at ho'
  rcases ho'.2 with ⟨h1, h2⟩ | ⟨g, cap', cur, rfl, _⟩
  ·omega
  ·exact h g cap' w' ho' hg
theorem own_low {w : World} {base base' : Nat} {e : TypeId} {size : Nat} {v : Value} {n : Nat} {xs : List Value} (h : w.ownsRow base e size v n xs) (hb : base' ≤ base) : w.ownsRow base' e size v n xs := by
 refine ⟨h.1, ?_⟩
 rcases h.2 with h0 | ⟨g, cap, cur, h1, h2, h3⟩
 ·exact .inl h0
 ·exact .inr ⟨g, cap, cur, h1, Nat.le_trans hb h2, h3⟩
theorem own_on {w w' : World} {base : Nat} {e : TypeId} {size : Nat} {v : Value} {n : Nat} {xs : List Value} (h : w.ownsRow base e size v n xs) (hb : Below w.heap.size w w') : w'.ownsRow base e size v n xs := by
 refine ⟨h.1, ?_⟩
 rcases h.2 with h0 | ⟨g, cap, cur, h1, h2, h3, h4⟩
 ·exact .inl h0
 ·exact .inr ⟨g, cap, cur, h1, h2, blk_on h3 hb, h4⟩
theorem chk_pos {e : En} (h : e.chk = 0) : 1 ≤ e.c ∧ e.k.size ≤ 16 ∧ 0 ≤ e.n := by
 unfold En.chk Vs.chk at h
 split at h
 ·omega
 ·split at h
  ·omega
  ·omega
structure MapL (l : List En) : Prop where
 rises : RisesE l
 chk : ∀ e ∈ l, e.chk = 0
theorem MapL.nil : MapL [] := ⟨List.Pairwise.nil, by simp⟩
def firstE (T : Nat → En) (n : Nat) : List En := (List.range n).map T
theorem firstE_succ (T : Nat → En) (n : Nat) : firstE T (n + 1) = firstE T n ++ [T n] := by simp [firstE, List.range_succ]
theorem firstE_len (T : Nat → En) (n : Nat) : (firstE T n).length = n := by simp [firstE]
theorem firstE_get (T : Nat → En) {i n : Nat} (h : i < n) : (firstE T n)[i]? = some (T i) := by simp [firstE, h]
theorem firstE_nth (l : List En) : firstE (nthE l) l.length = l := by
 apply List.ext_getElem?
 intro i
 by_cases h : i < l.length
 ·rw [firstE_get _ h, nthE_get h]
 ·rw [List.getElem?_eq_none (by rw [firstE_len]; omega), List.getElem?_eq_none (by omega)]
def ckAt (T : Nat → En) (i : Nat) : Int := if (T i).chk ≠ 0 then (T i).chk else if 0 < i ∧ kLt (T (i - 1)).k (T i).k = false then 90 else 0
def ckN (T : Nat → En) : Nat → Int
 | 0 => 0
 | n + 1 => if ckN T n ≠ 0 then ckN T n else ckAt T n
theorem ckN_step {T : Nat → En} {n : Nat} (h : ckN T n = 0) : ckN T (n + 1) = ckAt T n := by unfold ckN; rw [if_neg (by simp [h])]
theorem ckN_stay {T : Nat → En} {n : Nat} (h : ckN T n ≠ 0) : ∀ m, n ≤ m → ckN T m = ckN T n := by
 intro m hm
 induction m with
 | zero => obtain rfl : n = 0 := by omega
           rfl
 | succ m ih =>
  by_cases e : n = m + 1
  ·subst e; rfl
  ·have := ih (by omega)
   show (if ckN T m ≠ 0 then ckN T m else ckAt T m) = _
   rw [if_pos (by rw [this]; exact h), this]
theorem ckN_bad {T : Nat → En} {i n : Nat} (h0 : ckN T i = 0) (hi : i < n) (h : ckAt T i ≠ 0) : ckN T n = ckAt T i := by
 have h1 := ckN_step h0
 rw [← h1] at h
 rw [ckN_stay h n (by omega), h1]
theorem ckAt_ent {T : Nat → En} {i : Nat} (h : (T i).chk ≠ 0) : ckAt T i = (T i).chk := by unfold ckAt; rw [if_pos h]
theorem ckAt_ord {T : Nat → En} {i : Nat} (h : (T i).chk = 0) (h2 : 0 < i ∧ kLt (T (i - 1)).k (T i).k = false) : ckAt T i = 90 := by unfold ckAt; rw [if_neg (by simp [h]), if_pos h2]
theorem ckAt_ok {T : Nat → En} {i : Nat} (h : (T i).chk = 0) (h2 : ¬ (0 < i ∧ kLt (T (i - 1)).k (T i).k = false)) : ckAt T i = 0 := by unfold ckAt; rw [if_neg (by simp [h]), if_neg h2]
theorem rises_snoc {l : List En} {x : En} : RisesE (l ++ [x]) ↔ RisesE l ∧ ∀ y ∈ l, kLt y.k x.k = true := by
 unfold RisesE
 rw [List.pairwise_append]
 simp
theorem ck_map {T : Nat → En} : ∀ n, ckN T n = 0 ↔ MapL (firstE T n)
 | 0 => ⟨fun _ => MapL.nil, fun _ => rfl⟩
 | n + 1 => by
  have ih := ck_map (T := T) n
  rw [firstE_succ]
  constructor
  ·intro h
   have h0 : ckN T n = 0 := by
    apply Classical.byContradiction
    intro hn
    have := ckN_stay hn (n + 1) (by omega)
    rw [h] at this
    exact hn this.symm
   rw [ckN_step h0] at h
   have hm := ih.1 h0
   have hc : (T n).chk = 0 := by
    apply Classical.byContradiction
    intro hn
    rw [ckAt_ent hn] at h
    exact hn h
   have ho : ¬ (0 < n ∧ kLt (T (n - 1)).k (T n).k = false) := by
    intro hn
    rw [ckAt_ord hc hn] at h
    omega
   refine ⟨rises_snoc.2 ⟨hm.rises, ?_⟩, ?_⟩
   ·intro y hy
    cases n with
    | zero => simp [firstE] at hy
    | succ m =>
     have hk : kLt (T m).k (T (m + 1)).k = true := by
      cases hq : kLt (T m).k (T (m + 1)).k
      ·exact absurd ⟨by omega, hq⟩ ho
      ·rfl
     rw [firstE_succ] at hy
     rcases List.mem_append.1 hy with hy | hy
     ·have hr := hm.rises
      rw [firstE_succ] at hr
      exact kLt_trans ((rises_snoc.1 hr).2 y hy) hk
     ·rw [List.mem_singleton] at hy
      subst hy
      exact hk
   ·intro e he
    rcases List.mem_append.1 he with he | he
    ·exact hm.chk e he
    ·rw [List.mem_singleton] at he
     subst he
     exact hc
  ·intro h
   have h0 : ckN T n = 0 := ih.2 ⟨(rises_snoc.1 h.rises).1, fun e he => h.chk e (List.mem_append_left _ he)⟩
   rw [ckN_step h0]
   refine ckAt_ok (h.chk _ (List.mem_append_right _ (List.mem_singleton.2 rfl))) ?_
   rintro ⟨hn, hk⟩
   have := (rises_snoc.1 h.rises).2 (T (n - 1)) (by simp only [firstE, List.mem_map, List.mem_range]; exact ⟨n - 1, by omega, rfl⟩)
   rw [hk] at this
   cases this
theorem mapL_sub {l m : List En} (h : MapL m) (s : l.Sublist m) : MapL l := ⟨List.Pairwise.sublist s h.rises, fun e he => h.chk e (s.subset he)⟩
structure LdOk (nd ck : Int) (l : List En) : Prop where
 nd : nodeB nd = true
 c0 : 0 ≤ ck
 c1 : ck ≤ 1099511627776
 len : l.length ≤ 256
 map : MapL l
 ver : ∀ e ∈ l, e.c ≤ ck
theorem insE_end (e : En) : ∀ l : List En, (∀ y ∈ l, kLt y.k e.k = true) → insE e l = l ++ [e]
 | [], _ => rfl
 | y :: l, h => by
  have h1 := h y List.mem_cons_self
  unfold insE
  rw [if_neg (by rw [kLt_asymm h1]; simp), if_pos h1, insE_end e l (fun z hz => h z (List.mem_cons_of_mem _ hz))]
  rfl
theorem first_sub (T : Nat → En) {m n : Nat} (h : m ≤ n) : (firstE T m).Sublist (firstE T n) := by
 unfold firstE
 exact (List.range_sublist.2 h).map T
theorem first_mem {T : Nat → En} {j n : Nat} (h : j < n) : T j ∈ firstE T n := by
 unfold firstE
 exact List.mem_map.2 ⟨j, List.mem_range.2 h, rfl⟩
theorem ld_step {T : Nat → En} {j len : Nat} (h : MapL (firstE T len)) (hj : j < len) : insE (T j) (firstE T j) = firstE T (j + 1) := by
 have h1 : MapL (firstE T (j + 1)) := mapL_sub h (first_sub T (by omega))
 have h2 := h1.rises
 rw [firstE_succ, rises_snoc] at h2
 rw [firstE_succ, insE_end (T j) _ h2.2]
theorem ckm_low {ck c : Int} (h : c ≤ ck) : ckm ck c = ck := by
 unfold ckm
 rw [if_neg (by omega)]
theorem key_small {e : En} (h : e.chk = 0) : e.k.size ≤ 140737488351232 := by
 have := (chk_pos h).2.1
 omega
theorem chk_rising {T : Nat → En} {k : Nat} {q : Int} (hq : (T (k + 1)).chk = q) (h0 : q = 0) : ckAt T (k + 1) = bif kLt (T k).k (T (k + 1)).k then 0 else 90 := by
 subst h0
 cases h : kLt (T k).k (T (k + 1)).k
 ·exact ckAt_ord hq ⟨by omega, h⟩
 ·exact ckAt_ok hq (fun g => by have := g.2; rw [show k + 1 - 1 = k from rfl, h] at this; cases this)
theorem chk_first {T : Nat → En} {q : Int} (hq : (T 0).chk = q) (h0 : q = 0) : ckAt T 0 = 0 := ckAt_ok (hq.trans h0) (fun g => by have := g.1; omega)
theorem leq_eq (x y : ByteArray) : (Op.bytesLess x.toList y.toList || x.toList == y.toList) = !kLt y x := by
 unfold kLt
 cases h1 : Op.bytesLess x.toList y.toList <;> cases h2 : Op.bytesLess y.toList x.toList
 ·have e := L_total _ _ h1 h2
  simp [e]
 ·have e : (x.toList == y.toList) = false := by
    rw [beq_eq_false_iff_ne]; intro e; rw [e, L_irrefl] at h2; cases h2
  simp [e]
 ·simp
 ·have := L_trans _ _ _ h1 h2
  rw [L_irrefl] at this
  cases this
theorem chk_of (t : En) (w : World) {q : Int} (h : t.chk = q) (F : Nat) (C : ∀ (k : ByteArray) (c n : Int) (v : ByteArray) (d : Bool) (w : World), Calls Tryz.prog F #[.agg #[.string k, .int .i64 c, .int .i64 n, .string v, .bool d]] w fun e w' => e = .returned (.int .i64 (En.chk ⟨k, c, n, v, d⟩)) ∧ Below w.heap.size w w') :
    Calls Tryz.prog F #[.agg #[.string t.k, .int .i64 t.c, .int .i64 t.n, .string t.v, .bool t.d]] w fun e w' => e = .returned (.int .i64 q) ∧ Below w.heap.size w w' := by
 subst h
 exact C t.k t.c t.n t.v t.d w
theorem own_slice {w : World} {B : Nat} {e : TypeId} {s : Nat} {v : Value} {n : Nat} {xs : List Value} (h : w.ownsRow B e s v n xs) : ∃ a c, v = .slice a n c ∧ n ≤ c ∧ c ≤ maxLen ∧ ((a = none ∧ n = 0 ∧ c = 0) ∨ ∃ g, a = some ⟨g, 0, none⟩ ∧ B ≤ g) := by
 rcases h.2 with ⟨rfl, rfl⟩ | ⟨g, cap, cur, rfl, hb, _, hn, hm, _⟩
 ·exact ⟨none, 0, rfl, Nat.le_refl _, Nat.zero_le _, .inl ⟨rfl, rfl, rfl⟩⟩
 ·exact ⟨_, cap, rfl, hn, hm, .inr ⟨g, rfl, hb⟩⟩
def DSt (w : World) (B db : Nat) (nd ck : Int) (l : List En) : Prop := ∃ v, w.heap[db]? = some (.cells #[.int .i64 nd, .int .i64 ck, v] 87 (0, 0)) ∧ w.ownsRow B 77 5 v l.length (entCells l)
theorem DSt.below {w w' : World} {B db : Nat} {nd ck : Int} {l : List En} (h : DSt w B db nd ck l) (b : Below w.heap.size w w') : DSt w' B db nd ck l := by
 obtain ⟨v, h1, h2⟩ := h
 exact ⟨v, blk_on h1 b, own_on h2 b⟩
def LdSay (w : World) (nd ck : Int) (l : List En) (e : Ending) (w' : World) : Prop :=
 (LdOk nd ck l ∧ ∃ db, e = .returned (.tuple #[.pointer (some ⟨db, 0, none⟩), .int .i64 0]) ∧ w.heap.size ≤ db ∧ DSt w' w.heap.size db nd ck l) ∨ (¬ LdOk nd ck l ∧ ∃ c, c ≠ 0 ∧ e = .returned (.tuple #[.pointer none, .int .i64 c]))
theorem ldOk_of {nd ck : Int} {T : Nat → En} {len : Nat} (h1 : nodeB nd = true) (h3 : ¬ ck < 0) (h4 : ¬ 1099511627776 < ck) (h5 : ¬ (256 : Int) < (len : Int)) (hc : ckN T len = 0 ∧ ∀ i, i < len → (T i).c ≤ ck) : LdOk nd ck (firstE T len) :=
 ⟨h1, by omega, by omega, by rw [firstE_len]; omega, (ck_map len).1 hc.1, fun e he => by
  unfold firstE at he
  obtain ⟨i, hi, rfl⟩ := List.mem_map.1 he
  exact hc.2 i (List.mem_range.1 hi)⟩
set_option maxHeartbeats 3200000 in
set_option maxRecDepth 100000 in
theorem rload (nd ck : Int) (a : Option Addr) (len cap : Nat) (T : Nat → En) (w : World) (h : EntsIn w a len cap T) (hform : (a = none ∧ len = 0 ∧ cap = 0) ∨ ∃ y, a = some y) :
    Calls Tryz.prog 29 #[.int .i64 nd, .int .i64 ck, .slice a len cap] w fun e w' => Below w.heap.size w w' ∧ LdSay w nd ck (firstE T len) e w' := by
 have HE := aside h
 obtain ⟨hlc, hcm, -⟩ := h
 have hmx : (len : Int) ≤ 9223372036854775807 := by unfold maxLen at hcm; omega
 clear hlc hcm
 by_cases h1 : nd < 0
 ·have HB := aside (node_no1 h1)
  go_enter Tryz.func29, Tryz.ntmps29
  go_wp2
  go_ret2
  exact ⟨Below.refl _ _, .inr ⟨fun k => by have := k.nd; first | (rw [HB.out] at this; cases this) | (simp only [firstE_len] at this; omega) | omega, _, by decide, rfl⟩⟩
 by_cases h2 : 8 ≤ nd
 ·have HB := aside (node_no2 h2)
  go_enter Tryz.func29, Tryz.ntmps29
  go_wp2
  go_ret2
  exact ⟨Below.refl _ _, .inr ⟨fun k => by have := k.nd; first | (rw [HB.out] at this; cases this) | (simp only [firstE_len] at this; omega) | omega, _, by decide, rfl⟩⟩
 have HN := aside (node_yes h1 h2)
 by_cases h3 : ck < 0
 ·have HB := aside h3
  go_enter Tryz.func29, Tryz.ntmps29
  go_wp2
  go_ret2
  exact ⟨Below.refl _ _, .inr ⟨fun k => by have := k.c0; first | (rw [HB.out] at this; cases this) | (simp only [firstE_len] at this; omega) | omega, _, by decide, rfl⟩⟩
 by_cases h4 : 1099511627776 < ck
 ·have HB := aside h4
  go_enter Tryz.func29, Tryz.ntmps29
  go_wp2
  go_ret2
  exact ⟨Below.refl _ _, .inr ⟨fun k => by have := k.c1; first | (rw [HB.out] at this; cases this) | (simp only [firstE_len] at this; omega) | omega, _, by decide, rfl⟩⟩
 by_cases h5 : (256 : Int) < (len : Int)
 ·have HB := aside h5
  go_enter Tryz.func29, Tryz.ntmps29
  go_wp2
  go_ret2
  exact ⟨Below.refl _ _, .inr ⟨fun k => by have := k.len; first | (rw [HB.out] at this; cases this) | (simp only [firstE_len] at this; omega) | omega, _, by decide, rfl⟩⟩
 have H3 := aside h3
 have H4 := aside h4
 have H5 := aside h5
 have HF := aside hform
 clear hform
 go_enter Tryz.func29, Tryz.ntmps29
 go_wp2
 clear h1 h2 h3 h4
 go_loopw [30] (fun i wr => ∃ j : Nat, i = .int .i64 (j : Int) ∧ j ≤ len ∧ Hid (ckN T j = 0 ∧ ∀ i, i < j → (T i).c ≤ ck) ∧ Below w.heap.size w wr) (fun i _ => len - (intOf i).toNat)
 case atStart => exact ⟨0, rfl, Nat.zero_le _, ⟨rfl, fun i hi => by omega⟩, Below.refl _ _⟩
 case round =>
  obtain ⟨j, rfl, hj, HC, hB⟩ := hrel
  have HB := aside hB
  clear hB
  by_cases hlt : (j : Int) < (len : Int)
  ·have hE := HE.out.keep HB.out
   rcases hE.2.2 with h0 | ⟨b, off, rfl, hb, hc⟩
   ·omega
   obtain ⟨⟨c0, c1, c2, c3, c4⟩, -⟩ := hc j (by omega)
   obtain ⟨q, hq⟩ : ∃ q, (T j).chk = q := ⟨_, rfl⟩
   have HQ := aside hq
   have hj0 : (0 : Int) ≤ (j : Int) := by omega
   have HCC := aside hc
   clear hc hE
   obtain ⟨t, ht⟩ : ∃ t, T j = t := ⟨_, rfl⟩
   have HT := aside ht
   rw [ht] at c0 c1 c2 c3 c4 hq
   have CQ := aside (fun W => chk_of t W hq _ ichkRef_any)
   clear ht hq
   by_cases hq0 : q = 0
   ·subst hq0
    go_wp2_with fail
    refine (CQ.out _).mono ?_
    rintro e w1 ⟨rfl, b1⟩
    have B2 := aside (HB.out.trans ((bthen (bnew wr (.cells #[.string t.k, .int .i64 t.c, .int .i64 t.n, .string t.v, .bool t.d] 77)) b1).mono HB.out.size))
    have kb := blk_on (heap_alloc_new wr (.cells #[.string t.k, .int .i64 t.c, .int .i64 t.n, .string t.v, .bool t.d] 77)) b1
    obtain ⟨⟨e0, e1, -⟩, -⟩ := box5 kb
    generalize wr.heap.size = g at *
    have HC2 := aside (fun (i : Nat) (hi : i < len) => cell_in (HCC.out i hi).1.1 (bthen (bnew wr _) b1))
    clear b1 c0 c1 c2 c3 c4 kb CQ HCC
    cases j with
    | zero =>
     go_wp2_with fail
     refine wp_region_held_drew (S := fun W => Below w.heap.size w W ∧ W.cell? ⟨g, 1, none⟩ = some (.int .i64 t.c)) (by kernel_rfl) ⟨B2.out.drew, e1⟩ (fun hHeld => ?_)
     refine tk 0 rfl _ ?_; refine tk 1 rfl _ ?_; refine tk 2 rfl _ ?_; refine tn 3 rfl ?_; refine tn 4 rfl ?_; refine tn 5 rfl ?_; refine tn 6 rfl ?_; refine tn 7 rfl ?_; refine tn 8 rfl ?_; refine tn 9 rfl ?_; refine tn 10 rfl ?_; refine tn 11 rfl ?_; refine tk 12 rfl _ ?_
     refine wpAnyH_done (by kernel_rfl) ?_ _
     have B3 := aside hHeld.1
     have C1 := aside hHeld.2
     clear hHeld e0 e1
     have cv := C1.out
     by_cases hv : ck < t.c
     ·go_wp2
      go_ret2
      exact ⟨B3.out, .inr ⟨fun k9 => by have := k9.ver _ (first_mem (T := T) (j := 0) (by omega)); rw [HT.out] at this; omega, _, by decide, rfl⟩⟩
     ·have HV := aside hv
      go_wp2
      go_roundw
      case rel => exact ⟨0 + 1, by go_num, by omega, ⟨(ckN_step HC.out.1).trans (chk_first HQ.out rfl), fun i hi => by rcases Nat.lt_succ_iff_lt_or_eq.1 hi with h9 | h9; exact HC.out.2 i h9; (subst h9; rw [HT.out]; have := HV.out; omega)⟩, B3.out⟩
      case measure => simp [intOf]; omega
    | succ k =>
     have d0 := HC2.out k (by omega)
     obtain ⟨u, hu⟩ : ∃ u, T k = u := ⟨_, rfl⟩
     have HU := aside hu
     rw [hu] at d0
     clear hu HC2
     have hk0 : (0 : Int) ≤ (k : Int) := by omega
     have hk1 : (k : Int) < (len : Int) := by omega
     have hk2 : (0 : Int) ≤ (k : Int) + 1 := by omega
     have hk3 : (0 : Int) < (k : Int) + 1 := by omega
     have hk4 : (k : Int) + 1 < (len : Int) := by omega
     have hw2 : IntKind.i64.wrap (k : Int) = (k : Int) := by simp only [IntKind.wrap_i64]; omega
     go_wp2_with fail
     refine wp_region_held_drew (S := fun W => Below w.heap.size w W ∧ W.cell? ⟨b, off + k * 5, none⟩ = some (.string u.k) ∧ W.cell? ⟨g, 0, none⟩ = some (.string t.k) ∧ W.cell? ⟨g, 1, none⟩ = some (.int .i64 t.c)) (by kernel_rfl) ⟨B2.out.drew, d0, e0, e1⟩ (fun hHeld => ?_)
     refine tk 0 rfl _ ?_; refine tk 1 rfl _ ?_; refine tk 2 rfl _ ?_; refine tk 3 rfl _ ?_; refine tk 4 rfl _ ?_; refine tk 5 rfl _ ?_; refine tk 6 rfl _ ?_; refine tk 7 rfl _ ?_; refine tk 8 rfl _ ?_; refine tk 9 rfl _ ?_; refine tk 10 rfl _ ?_; refine tk 11 rfl (.bool (!kLt u.k t.k)) ?_ (by intro w hSw; go_simp; exact leq_eq _ _); refine tk 12 rfl _ ?_
     refine wpAnyH_done (by kernel_rfl) ?_ _
     have B3 := aside hHeld.1
     have C1 := aside hHeld.2.2.2
     clear hHeld hw2 e0 e1 d0
     have KQ := aside (chk_rising HQ.out rfl)
     rw [HU.out, HT.out] at KQ
     cases hkk : kLt u.k t.k
     ·rw [hkk] at KQ
      go_wp2
      go_ret2
      refine ⟨B3.out, .inr ⟨fun k9 => ?_, _, by decide, rfl⟩⟩
      have h9 := (ck_map len).2 k9.map
      have := ckN_bad (n := len) HC.out.1 (by omega) (by rw [KQ.out]; decide)
      rw [KQ.out, h9] at this
      cases this
     ·rw [hkk] at KQ
      have cv := C1.out
      by_cases hv : ck < t.c
      ·go_wp2
       go_ret2
       exact ⟨B3.out, .inr ⟨fun k9 => by have := k9.ver _ (first_mem (T := T) (j := (k + 1)) (by omega)); rw [HT.out] at this; omega, _, by decide, rfl⟩⟩
      ·have HV := aside hv
       go_wp2
       go_roundw
       case rel => exact ⟨(k + 1) + 1, by go_num, by omega, ⟨(ckN_step HC.out.1).trans KQ.out, fun i hi => by rcases Nat.lt_succ_iff_lt_or_eq.1 hi with h9 | h9; exact HC.out.2 i h9; (subst h9; rw [HT.out]; have := HV.out; omega)⟩, B3.out⟩
       case measure => simp [intOf]; omega
   ·have HQ0 := aside hq0
    go_wp2_with fail
    refine (CQ.out _).mono ?_
    rintro e w1 ⟨rfl, b1⟩
    have B2 := aside (HB.out.trans ((bthen (bnew wr (.cells #[.string t.k, .int .i64 t.c, .int .i64 t.n, .string t.v, .bool t.d] 77)) b1).mono HB.out.size))
    clear b1 CQ c0 c1 c2 c3 c4
    have hqb : (q == 0) = false := by simpa using hq0
    go_wp2
    go_ret2
    exact ⟨B2.out, .inr ⟨fun k9 => HQ0.out (by have := k9.map.chk _ (first_mem (T := T) (j := j) (by omega)); rw [HQ.out] at this; exact this), _, HQ0.out, rfl⟩⟩
  ·have hjl : j = len := by omega
   subst hjl
   have HEV := aside (HE.out.keep HB.out)
   go_wp2_with (at_builtin; refine wpList_plain rfl fun K hK => op_append_copy _ _ rfl (by rfl) a j cap T (by rfl) HEV.out HF.out (by have := H5.out; omega) ?_; intro v9 w3 own9 b9; refine hK _ _ ?_; refine Hid.out ?_)
   refine aside ?_
   obtain ⟨a9, c9, rfl, -, -, -⟩ := own_slice own9
   have O9 := aside own9
   have B9 := aside b9
   clear own9 b9 HEV
   go_wp2
   go_ret2
   refine ⟨(HB.out.trans (B9.out.mono HB.out.size)).alloc (by have := HB.out.size; have := B9.out.size; omega) _, .inl ⟨ldOk_of HN.out (by have := H3.out; omega) (by have := H4.out; omega) (by have := H5.out; omega) HC.out, w3.heap.size, rfl, by have := HB.out.size; have := B9.out.size; omega, _, heap_alloc_new w3 _, ?_⟩⟩
   rw [firstE_len]
   exact own_low (own_on O9.out (bnew w3 _)) HB.out.size
theorem ents_five {w : World} {b o len cap : Nat} {T : Nat → En} (h : EntsIn w (some ⟨b, o, none⟩) len cap T) {i : Nat} (hi : i < len) {x : En} (hx : T i = x) :
    w.cell? ⟨b, o + i * 5, none⟩ = some (.string x.k) ∧ w.cell? ⟨b, o + i * 5 + 1, none⟩ = some (.int .i64 x.c) ∧ w.cell? ⟨b, o + i * 5 + 2, none⟩ = some (.int .i64 x.n) ∧ w.cell? ⟨b, o + i * 5 + 3, none⟩ = some (.string x.v) ∧ w.cell? ⟨b, o + i * 5 + 4, none⟩ = some (.bool x.d) := by
 rcases h.2.2 with h0 | ⟨b', o', e, -, hc⟩
 ·omega
 ·cases e
  have := (hc i hi).1
  rw [hx] at this
  exact this
end Go.Proofs.YtpbkjffiohfkcaaGreatDoor

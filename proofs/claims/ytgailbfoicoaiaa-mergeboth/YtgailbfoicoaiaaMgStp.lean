/-
  Entries that come one by one, each kept where it is newer: plain, and the rows that hold them.
-/
import Derived.Test.YtgailbfoicoaiaaMgPl2
import Derived.Test.YtgailbfoicoaiaaMgIn
import Derived.Test.YtgailbfoicoaiaaMgSpo
namespace Go.Proofs.Ytgailbfoicoaiaa
open Go.RowKit
set_option linter.unusedVariables false

theorem mem_pulled {R : List En} {m k : Nat} (hl : R.length = m + 1) (hk : k < m + 1) (x : En) : x ∈ R ↔ x = nthE R k ∨ x ∈ pulled R m k := by
  have nth : ∀ i, i < m + 1 → nthE R i ∈ R := fun i hi => List.mem_of_getElem? (nthE_get (l := R) (i := i) (by omega))
  constructor
  · intro hx
    obtain ⟨i, hi, he⟩ := List.getElem_of_mem hx
    have he2 : R[i]? = some x := by rw [List.getElem?_eq_getElem hi, he]
    by_cases hik : i = k
    · subst hik
      rw [nthE_get hi] at he2
      injection he2 with he2
      exact .inl he2.symm
    · refine .inr ?_
      by_cases him : i = m
      · refine List.mem_of_getElem? (i := k) ?_
        unfold pulled
        rw [List.getElem?_take_of_lt (by omega), List.getElem?_set_self (by omega), ← nthE_get (by omega), ← him]
        exact he2
      · refine List.mem_of_getElem? (i := i) ?_
        unfold pulled
        rw [List.getElem?_take_of_lt (by omega), List.getElem?_set_ne (by omega)]
        exact he2
  · rintro (rfl | hx)
    · exact nth k hk
    · unfold pulled at hx
      rcases List.mem_or_eq_of_mem_set (List.mem_of_mem_take hx) with h | h
      · exact h
      · rw [h]; exact nth m (by omega)

/-- What was taken so far, what is left, and the newest of what was taken. -/
structure StI (Ma Mb : List En) (i : Nat) (R M : List En) : Prop where
  all : ∃ Tk : List En, (∀ x, (x ∈ Tk ∨ x ∈ R) ↔ (x ∈ Ma ∨ x ∈ Mb)) ∧ Nws (fun x => x ∈ Tk) M
  len : M.length + R.length ≤ Ma.length + Mb.length
  cnt : i + R.length = Ma.length + Mb.length
theorem StI.start (Ma Mb : List En) : StI Ma Mb 0 (Ma ++ Mb) [] :=
  ⟨⟨[], fun x => by simp, ⟨MapL.nil, by simp, by simp⟩⟩, by simp, by simp⟩
theorem one_map {e : En} (h : e.chk = 0) : MapL [e] := ⟨List.pairwise_singleton _ _, fun x hx => by rw [List.mem_singleton] at hx; subst hx; exact h⟩
theorem StI.chk {Ma Mb R M : List En} {i : Nat} (h : StI Ma Mb i R M) (ma : MapL Ma) (mb : MapL Mb) {e : En} (he : e ∈ R) : e.chk = 0 := by
  obtain ⟨Tk, h1, -⟩ := h.all
  rcases (h1 e).1 (.inr he) with h | h
  · exact ma.chk e h
  · exact mb.chk e h
theorem StI.map {Ma Mb R M : List En} {i : Nat} (h : StI Ma Mb i R M) : MapL M := by
  obtain ⟨Tk, -, h2⟩ := h.all
  exact h2.map
theorem StI.step {Ma Mb R M : List En} {i m k : Nat} (h : StI Ma Mb i R M) (ma : MapL Ma) (mb : MapL Mb) (hl : R.length = m + 1) (hk : k < m + 1) : StI Ma Mb (i + 1) (pulled R m k) (mxL M [nthE R k]) := by
  have hin : nthE R k ∈ R := List.mem_of_getElem? (nthE_get (l := R) (i := k) (by omega))
  have hc := h.chk ma mb hin
  have hp := pulled_length R m k hl
  have h3 := mx_len M [nthE R k]
  have h4 := h.len
  have h5 := h.cnt
  simp only [List.length_singleton] at h3
  obtain ⟨Tk, h1, h2⟩ := h.all
  refine ⟨⟨nthE R k :: Tk, fun x => ?_, ?_⟩, by omega, by omega⟩
  · rw [← h1 x, mem_pulled hl hk x, List.mem_cons]
    constructor
    · rintro ((h | h) | h)
      · exact .inr (.inl h)
      · exact .inl h
      · exact .inr (.inr h)
    · rintro (h | h | h)
      · exact .inl (.inr h)
      · exact .inl (.inl h)
      · exact .inr h
  · exact (h2.max (Nws.list (one_map hc))).of (fun x => by simp only [List.mem_cons, List.not_mem_nil, or_false]; exact or_comm)
theorem StI.done {Ma Mb M : List En} {i : Nat} (h : StI Ma Mb i [] M) (ma : MapL Ma) (mb : MapL Mb) (hc : CleanL Ma Mb) : M = mxL Ma Mb := by
  obtain ⟨Tk, h1, h2⟩ := h.all
  exact (h2.of (P' := fun x => x ∈ Ma ∨ x ∈ Mb) (fun x => by have := h1 x; simpa using this)).one ((Nws.list ma).max (Nws.list mb)) (one2 ma mb hc)
theorem mx_ge (a b : List En) : a.length ≤ (mxL a b).length ∧ b.length ≤ (mxL a b).length := by
  unfold mxL
  rw [List.length_map]
  induction a, b using prs.induct with
  | case1 => simp [prs_nil]
  | case2 x r ih => rw [prs_left]; simp at *; omega
  | case3 y s ih => rw [prs_right]; simp at *; omega
  | case4 x r y s h ih => rw [prs_lt r s h]; simp at *; omega
  | case5 x r y s h h2 ih => rw [prs_gt r s (by simpa using h) h2]; simp at *; omega
  | case6 x r y s h h2 ih => rw [prs_eq r s (by simpa using h) (by simpa using h2)]; simp at *; omega

theorem Lst.row {w : World} {B n c : Nat} {a : Option Addr} {l : List En} (h : w.ownsRow B 29 5 (.slice a n c) n (entCells l)) (hk : KeysOk l) : Lst w a n c l := by
  obtain ⟨a', c', e, h2⟩ := Lst.of_row h hk
  injection e with e1 _ e3
  subst e1 e3
  exact h2
theorem own_oneE (w : World) (B : Nat) (h : B ≤ w.heap.size) (e : En) : (w.alloc (.cells #[.string e.k, .int .i64 e.c, .int .i64 e.n, .string e.v, .bool e.d] 29)).ownsRow B 29 5 (.slice (some ⟨w.heap.size, 0, none⟩) 1 1) 1 (entCells [e]) := by
  refine ⟨rfl, .inr ⟨w.heap.size, 1, #[.string e.k, .int .i64 e.c, .int .i64 e.n, .string e.v, .bool e.d], rfl, h, heap_alloc_new w _, Nat.le_refl _, by unfold maxLen; omega, rfl, rfl⟩⟩

/-- A list appended to a row that is ours, as one operation. -/
theorem op_append_ents {w : World} {o : Oper} {act : Act} {K : Act → World → Prop} {Q : Exit → Act → World → Prop} (s x : Operand)
    (ho : o.op = .call { callee := .builtin .append, args := #[s, x], argTypes := #[22, 22] })
    (B n : Nat) (v : Value) (A : List En) (hs : act.eval s = v) (hown : w.ownsRow B 29 5 v n (entCells A)) (a : Option Addr) (len cap m : Nat) (l : List En) (hx : act.eval x = .slice a len cap) (hL : Lst w a len cap l)
    (hform : (a = none ∧ len = 0 ∧ cap = 0) ∨ ∃ y, a = some y) (hm : n + len = m) (hlen : m * 56 ≤ 140737488351232) (hB : B ≤ w.heap.size)
    (h : ∀ a' c' w', w'.ownsRow B 29 5 (.slice a' m c') m (entCells (A ++ l)) → w.grownBy w' v.ownBlock → K (act.put o.dst (.slice a' m c')) w') : o.wp Try.prog act w K Q := by
  obtain ⟨i0, hi, hz0, hz1, hz2⟩ := info_parts infoEnt
  obtain ⟨T, hE, rfl⟩ := hL
  subst hm
  rcases hform with ⟨rfl, rfl, rfl⟩ | ⟨y, rfl⟩
  · have hrun := run_append_owned_none (P := Try.prog) (w := w) B 22 o.type 29 i0 5 Try.underlying22 hi _ _ _ hown
    obtain ⟨a', c', rfl, -⟩ := own_slice hown
    have h0 : K (act.put o.dst (.slice a' n c')) w := by simpa using h a' c' w (by simpa [firstE] using hown) ⟨rfl, rfl, rfl, Nat.le_refl _, fun _ _ _ => rfl⟩
    unfold Oper.wp
    simp [execOp, ho, resolve, invoke, builtin, hs, hx, hrun, Result.andThen]
    exact h0
  · refine wp_append_own w s x _ ho B 29 i0 _ 5 56 Try.underlying22 hi hz0 hz1 hz2 rfl (by decide) _ _ _ hs hown y len cap (entCells (firstE T len)) hx (by rw [entCells_length, firstE_len]) (ents_cells hE) (entCells_one _) (by unfold maxLen; omega) (by omega) hB ?_
    intro v' w' ho' hg _
    rw [← entCells_append] at ho'
    obtain ⟨a', c', rfl, -⟩ := own_slice ho'
    exact h a' c' w' ho' hg

theorem maxS {a b : Option Addr} {la ca lb cb : Nat} {Ma Mb : List En} {w : World} (ha : Lst w a la ca Ma) (hb : Lst w b lb cb Mb) (ma : MapL Ma) (mb : MapL Mb) (hl : Ma.length + Mb.length ≤ 2147483648) :
    Calls Try.prog 11 #[.slice a la ca, .slice b lb cb] w fun e w' => Says w 0 (mxL Ma Mb) e w' := by
  have l1 := ha.len
  have l2 := hb.len
  obtain ⟨A, eA, rA⟩ := ha
  obtain ⟨B, eB, rB⟩ := hb
  have h := mmax_any a la ca A b lb cb B w eA eB (by omega)
  rw [ck2_maps rA rB ma mb, outL_ok _ rfl, rA, rB] at h
  exact h

/-- The rows of a round: what is left, what was made. -/
structure StM (V : World) (ra : Option Addr) (m rc : Nat) (R : List En) (da : Option Addr) (dn dc : Nat) (M : List En) (w : World) : Prop where
  rest : w.ownsRow V.heap.size 29 5 (.slice ra m rc) m (entCells R)
  made : ∃ Bm, w.ownsRow Bm 29 5 (.slice da dn dc) dn (entCells M) ∧ V.heap.size ≤ Bm ∧ ∀ j, (Value.slice ra m rc).ownBlock = some j → j < Bm
  bel : Below V.heap.size V w
theorem StM.len {V : World} {ra : Option Addr} {m rc : Nat} {R : List En} {da : Option Addr} {dn dc : Nat} {M : List En} {w : World} (h : StM V ra m rc R da dn dc M w) : R.length = m ∧ M.length = dn := by
  have h1 := h.rest.1
  obtain ⟨Bm, h2, -⟩ := h.made
  have h3 := h2.1
  rw [entCells_length] at h1 h3
  omega
/-- What a round leaves. -/
theorem StM.step {V : World} {g m m1 rc k : Nat} {R : List En} {da : Option Addr} {dn dc : Nat} {M N : List En} {w w' : World} {a : Option Addr} {n c : Nat} (h : StM V (some ⟨g, 0, none⟩) m rc R da dn dc M w) (b : Below w.heap.size w w') {B : Nat} (hB : w.heap.size ≤ B) (ho : w'.ownsRow B 29 5 (.slice a n c) n (entCells N)) (hm : m = m1 + 1) (hk : k < m) (e : En) (he : nthE R m1 = e) :
    StM V (some ⟨g, 0, none⟩) m1 rc (pulled R m1 k) a n c N (((((w'.setCell ⟨g, k * 5, none⟩ (.string e.k)).setCell ⟨g, k * 5 + 1, none⟩ (.int .i64 e.c)).setCell ⟨g, k * 5 + 2, none⟩ (.int .i64 e.n)).setCell ⟨g, k * 5 + 3, none⟩ (.string e.v)).setCell ⟨g, k * 5 + 4, none⟩ (.bool e.d)) := by
  subst hm he
  have hlen := h.len.1
  have hg : g < w.heap.size ∧ V.heap.size ≤ g := ⟨(h.rest.lt g rfl).2, (h.rest.lt g rfl).1⟩
  have r1 := own_on h.rest b
  have kp := put_keeps w' g (k * 5) (.string (nthE R m1).k) (.int .i64 (nthE R m1).c) (.int .i64 (nthE R m1).n) (.string (nthE R m1).v) (.bool (nthE R m1).d)
  have vs := h.bel.size
  have ws := b.size
  refine ⟨own_shrink (own_put r1 (nthE R m1) (j := k) (by omega)), ⟨B, ownsRow_keep ho kp (fun j h1 h2 => ?_), by omega, fun j h1 => ?_⟩, ?_⟩
  · have h3 := (ho.lt j h1).1
    injection h2 with h2
    omega
  · have h2 : some g = some j := h1
    injection h2 with h2
    omega
  · exact (h.bel.trans (b.mono vs)).trans (kp.below (by omega) (fun j hj h1 => by injection h1 with h1; omega))

end Go.Proofs.Ytgailbfoicoaiaa

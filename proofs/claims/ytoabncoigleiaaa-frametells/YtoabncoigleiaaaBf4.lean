/-
  CheckParts: the document's own.
  Check: the document's own.
  Rows of entries that a call owns: their cells, copies by append, one entry appended.
  Rows of parts that a call owns: their cells, a list appended.
  Same of the document's: frames that are the same.
-/
import Derived.Test.YtoabncoigleiaaaBf2
import Derived.Test.YtoabncoigleiaaaBf3
import Derived.Test.YtoabncoigleiaaaBf1
import Derived.OwnWalk
import Derived.Laws.OwnMore
import Derived.Deep.CutBlock
namespace Go.Proofs.Ytoabncoigleiaaa
open Go.RowKit
set_option linter.unusedVariables false
end Go.Proofs.Ytoabncoigleiaaa
namespace Go.Proofs.Ytoabncoigleiaaa
open Go.RowKit
set_option linter.unusedVariables false
theorem rg_ne_run (lo hi : ByteArray) (op : Bool) (lo' hi' : ByteArray) (op' : Bool) (w : World) : (binOp .neq 43 (.agg #[.string lo, .string hi, .bool op]) (.agg #[.string lo', .string hi', .bool op'])).run Try.prog w = .ok (.bool (!(lo.toList == lo'.toList && (hi.toList == hi'.toList && op == op')))) w := by
  rw [run_neq_struct, show (10000 : Nat) = 9999 + 1 from rfl]
  go_simp
  cases h1 : (lo.toList == lo'.toList) <;> cases h2 : (hi.toList == hi'.toList) <;> cases op <;> cases op' <;> simp_all
end Go.Proofs.Ytoabncoigleiaaa
namespace Go.Proofs.Ytoabncoigleiaaa
open Go.RowKit
set_option linter.unusedVariables false
def entVals (e : En) : List Value := [.string e.k, .int .i64 e.c, .int .i64 e.n, .string e.v, .bool e.d]
def entCells : List En → List Value
  | [] => []
  | e :: r => entVals e ++ entCells r
theorem entCells_length : ∀ l : List En, (entCells l).length = l.length * 5
  | [] => rfl
  | e :: r => by simp only [entCells, List.length_append, entCells_length r, List.length_cons, entVals]; simp; omega
theorem entCells_append : ∀ l m : List En, entCells (l ++ m) = entCells l ++ entCells m
  | [], _ => rfl
  | e :: r, m => by simp [entCells, entCells_append r m]
theorem entCells_at : ∀ (l : List En) (i r : Nat) (e : En), l[i]? = some e → r < 5 → (entCells l)[i * 5 + r]? = (entVals e)[r]?
  | [], i, r, e, h, _ => by simp at h
  | x :: t, 0, r, e, h, hr => by
    simp at h; subst h
    simp only [entCells]
    rw [List.getElem?_append_left (by simp [entVals]; omega)]
    simp
  | x :: t, i + 1, r, e, h, hr => by
    simp only [entCells]
    rw [List.getElem?_append_right (by simp [entVals]; omega)]
    have := entCells_at t i r e (by simpa using h) hr
    rw [← this]
    congr 1
    simp [entVals]
    omega
theorem entCells_one (l : List En) : ∀ u ∈ entCells l, u.oneCell' = true := by
  induction l with
  | nil => intro u hu; simp [entCells] at hu
  | cons e r ih =>
    intro u hu
    simp only [entCells, List.mem_append] at hu
    rcases hu with hu | hu
    · simp [entVals] at hu
      rcases hu with rfl | rfl | rfl | rfl | rfl <;> rfl
    · exact ih u hu
theorem infoEnt : (Try.prog.info? 55).map (fun i => (i.zero, i.size, i.bytes)) = some (some (.agg #[.string ⟨#[]⟩, .int .i64 0, .int .i64 0, .string ⟨#[]⟩, .bool false]), 5, 56) := by kernel_rfl
def nthE (l : List En) (i : Nat) : En := l.getD i ⟨⟨#[]⟩, 0, 0, ⟨#[]⟩, false⟩
theorem nthE_get {l : List En} {i : Nat} (h : i < l.length) : l[i]? = some (nthE l i) := by
  unfold nthE; rw [List.getD, List.getElem?_eq_getElem h]; rfl
/-- The cells of a part of an owned row. -/
theorem row_cells {w : World} {B g cap n : Nat} {l : List En} (h : w.ownsRow B 55 5 (.slice (some ⟨g, 0, none⟩) n cap) n (entCells l)) {i : Nat} (hi : i < l.length) :
    w.cell? ⟨g, i * 5, none⟩ = some (.string (nthE l i).k) ∧ w.cell? ⟨g, i * 5 + 1, none⟩ = some (.int .i64 (nthE l i).c) ∧ w.cell? ⟨g, i * 5 + 2, none⟩ = some (.int .i64 (nthE l i).n) ∧ w.cell? ⟨g, i * 5 + 3, none⟩ = some (.string (nthE l i).v) ∧ w.cell? ⟨g, i * 5 + 4, none⟩ = some (.bool (nthE l i).d) := by
  have hn : l.length = n := by have := h.1; rw [entCells_length] at this; omega
  have e := nthE_get hi
  have c : ∀ r, r < 5 → w.cell? ⟨g, i * 5 + r, none⟩ = (entVals (nthE l i))[r]? := fun r hr => by
    rw [h.cellAt (i * 5 + r) (by omega), entCells_at l i r _ e hr]
  exact ⟨by simpa [entVals] using c 0 (by omega), by simpa [entVals] using c 1 (by omega), by simpa [entVals] using c 2 (by omega), by simpa [entVals] using c 3 (by omega), by simpa [entVals] using c 4 (by omega)⟩
theorem row_max {w : World} {B g cap n : Nat} {xs : List Value} {e s : Nat} (h : w.ownsRow B e s (.slice (some ⟨g, 0, none⟩) n cap) n xs) : n ≤ cap ∧ cap ≤ maxLen := by
  rcases h.2 with ⟨h, _⟩ | ⟨g', cap', cur, h1, h2, h3, h4, h5, h6⟩
  · cases h
  · injection h1 with e1 e2 e3
    omega
/-- The cells of a list of entries that came in. -/
theorem ents_cells {w : World} {y : Addr} {len cap : Nat} {T : Nat → En} (h : EntsIn w (some y) len cap T) : ∀ j u, (entCells ((List.range len).map T))[j]? = some u → w.cell? (y.add j) = some u := by
  intro j u hj
  have hjl : j < len * 5 := by
    have := (List.getElem?_eq_some_iff.1 hj).1
    rw [entCells_length] at this
    simpa using this
  rcases h.2.2 with h0 | ⟨b, off, hy, hb, hc⟩
  · omega
  · injection hy with hy
    subst hy
    obtain ⟨⟨c0, c1, c2, c3, c4⟩, -⟩ := hc (j / 5) (by omega)
    have hat := entCells_at ((List.range len).map T) (j / 5) (j % 5) (T (j / 5)) (by rw [List.getElem?_map, List.getElem?_range (by omega)]; rfl) (by omega)
    rw [show j / 5 * 5 + j % 5 = j from by omega] at hat
    rw [hat] at hj
    rw [Addr.add_lit, show off + j = off + j / 5 * 5 + j % 5 from by omega]
    have hr : j % 5 < 5 := by omega
    generalize j % 5 = r at *
    match r, hr with
    | 0, _ => simp [entVals] at hj; subst hj; exact c0
    | 1, _ => simp [entVals] at hj; subst hj; exact c1
    | 2, _ => simp [entVals] at hj; subst hj; exact c2
    | 3, _ => simp [entVals] at hj; subst hj; exact c3
    | 4, _ => simp [entVals] at hj; subst hj; exact c4
theorem own_low {w : World} {base base' : Nat} {e : TypeId} {size : Nat} {v : Value} {n : Nat} {xs : List Value} (h : w.ownsRow base e size v n xs) (hb : base' ≤ base) : w.ownsRow base' e size v n xs := by
  refine ⟨h.1, ?_⟩
  rcases h.2 with h0 | ⟨g, cap, cur, h1, h2, h3⟩
  · exact .inl h0
  · exact .inr ⟨g, cap, cur, h1, Nat.le_trans hb h2, h3⟩
theorem own_on {w w' : World} {base : Nat} {e : TypeId} {size : Nat} {v : Value} {n : Nat} {xs : List Value} (h : w.ownsRow base e size v n xs) (hb : Below w.heap.size w w') : w'.ownsRow base e size v n xs := by
  refine ⟨h.1, ?_⟩
  rcases h.2 with h0 | ⟨g, cap, cur, h1, h2, h3, h4⟩
  · exact .inl h0
  · exact .inr ⟨g, cap, cur, h1, h2, blk_on h3 hb, h4⟩
end Go.Proofs.Ytoabncoigleiaaa
namespace Go.Proofs.Ytoabncoigleiaaa
open Go.RowKit
set_option linter.unusedVariables false
def ptVals (p : Pm) : List Value := [.int .i64 p.kind, .string p.lo, .string p.hi, .bool p.op, .int .i64 p.cnt, .int .u64 p.s0, .int .u64 p.s1, .slice p.ea p.el p.ec]
def ptCells : List Pm → List Value
  | [] => []
  | e :: r => ptVals e ++ ptCells r
theorem ptCells_length : ∀ l : List Pm, (ptCells l).length = l.length * 8
  | [] => rfl
  | e :: r => by simp only [ptCells, List.length_append, ptCells_length r, List.length_cons, ptVals]; simp; omega
theorem ptCells_append : ∀ l m : List Pm, ptCells (l ++ m) = ptCells l ++ ptCells m
  | [], _ => rfl
  | e :: r, m => by simp [ptCells, ptCells_append r m]
theorem ptCells_at : ∀ (l : List Pm) (i r : Nat) (e : Pm), l[i]? = some e → r < 8 → (ptCells l)[i * 8 + r]? = (ptVals e)[r]?
  | [], i, r, e, h, _ => by simp at h
  | x :: t, 0, r, e, h, hr => by
    simp at h; subst h
    simp only [ptCells]
    rw [List.getElem?_append_left (by simp [ptVals]; omega)]
    simp
  | x :: t, i + 1, r, e, h, hr => by
    simp only [ptCells]
    rw [List.getElem?_append_right (by simp [ptVals]; omega)]
    have := ptCells_at t i r e (by simpa using h) hr
    rw [← this]
    congr 1
    simp [ptVals]
    omega
theorem ptCells_one (l : List Pm) : ∀ u ∈ ptCells l, u.oneCell' = true := by
  induction l with
  | nil => intro u hu; simp [ptCells] at hu
  | cons e r ih =>
    intro u hu
    simp only [ptCells, List.mem_append] at hu
    rcases hu with hu | hu
    · simp [ptVals] at hu
      rcases hu with rfl | rfl | rfl | rfl | rfl | rfl | rfl | rfl <;> rfl
    · exact ih u hu
theorem infoPart : (Try.prog.info? 51).map (fun i => (i.zero, i.size, i.bytes)) = some (some (.agg #[.int .i64 0, .string ⟨#[]⟩, .string ⟨#[]⟩, .bool false, .int .i64 0, .int .u64 0, .int .u64 0, .slice none 0 0]), 8, 96) := by kernel_rfl
def pm0 : Pm := ⟨0, ⟨#[]⟩, ⟨#[]⟩, false, 0, 0, 0, none, 0, 0, fun _ => ⟨⟨#[]⟩, 0, 0, ⟨#[]⟩, false⟩⟩
def nthP (l : List Pm) (i : Nat) : Pm := l.getD i pm0
theorem nthP_get {l : List Pm} {i : Nat} (h : i < l.length) : l[i]? = some (nthP l i) := by
  unfold nthP; rw [List.getD, List.getElem?_eq_getElem h]; rfl
def firstP (P : Nat → Pm) (n : Nat) : List Pm := (List.range n).map P
theorem firstP_len (P : Nat → Pm) (n : Nat) : (firstP P n).length = n := by simp [firstP]
theorem firstP_nth (P : Nat → Pm) {n i : Nat} (h : i < n) : nthP (firstP P n) i = P i := by
  unfold nthP firstP
  rw [List.getD, List.getElem?_map, List.getElem?_range h]; rfl
/-- The cells of a part of an owned row. -/
theorem rowP_cells {w : World} {B g cap n : Nat} {l : List Pm} (h : w.ownsRow B 51 8 (.slice (some ⟨g, 0, none⟩) n cap) n (ptCells l)) {i : Nat} (hi : i < l.length) : w.cell? ⟨g, i * 8, none⟩ = some (.int .i64 (nthP l i).kind) ∧ w.cell? ⟨g, i * 8 + 1, none⟩ = some (.string (nthP l i).lo) ∧ w.cell? ⟨g, i * 8 + 2, none⟩ = some (.string (nthP l i).hi) ∧ w.cell? ⟨g, i * 8 + 3, none⟩ = some (.bool (nthP l i).op) ∧ w.cell? ⟨g, i * 8 + 4, none⟩ = some (.int .i64 (nthP l i).cnt) ∧ w.cell? ⟨g, i * 8 + 5, none⟩ = some (.int .u64 (nthP l i).s0) ∧ w.cell? ⟨g, i * 8 + 6, none⟩ = some (.int .u64 (nthP l i).s1) ∧ w.cell? ⟨g, i * 8 + 7, none⟩ = some (.slice (nthP l i).ea (nthP l i).el (nthP l i).ec) := by
  have hn : l.length = n := by have := h.1; rw [ptCells_length] at this; omega
  have e := nthP_get hi
  have c : ∀ r, r < 8 → w.cell? ⟨g, i * 8 + r, none⟩ = (ptVals (nthP l i))[r]? := fun r hr => by
    rw [h.cellAt (i * 8 + r) (by omega), ptCells_at l i r _ e hr]
  exact ⟨by simpa [ptVals] using c 0 (by omega), by simpa [ptVals] using c 1 (by omega), by simpa [ptVals] using c 2 (by omega), by simpa [ptVals] using c 3 (by omega), by simpa [ptVals] using c 4 (by omega), by simpa [ptVals] using c 5 (by omega), by simpa [ptVals] using c 6 (by omega), by simpa [ptVals] using c 7 (by omega)⟩
/-- An owned row as a list of parts in memory. -/
theorem parts_of_row {w : World} {B g cap n : Nat} {P : Nat → Pm} (h : w.ownsRow B 51 8 (.slice (some ⟨g, 0, none⟩) n cap) n (ptCells (firstP P n))) (hin : ∀ i, i < n → (P i).In w) : PartsIn w (some ⟨g, 0, none⟩) n cap P := by
  have hm := row_max h
  refine ⟨hm.1, hm.2, .inr ⟨g, 0, rfl, (h.lt g rfl).2, fun i hi => ⟨?_, hin i hi⟩⟩⟩
  have := rowP_cells h (i := i) (by rw [firstP_len]; exact hi)
  rw [firstP_nth P hi] at this
  simpa [PmAt] using this
/-- The cells of a list of parts that came in. -/
theorem parts_cells {w : World} {y : Addr} {len cap : Nat} {P : Nat → Pm} (h : PartsIn w (some y) len cap P) : ∀ j u, (ptCells (firstP P len))[j]? = some u → w.cell? (y.add j) = some u := by
  intro j u hj
  have hjl : j < len * 8 := by
    have := (List.getElem?_eq_some_iff.1 hj).1
    rw [ptCells_length, firstP_len] at this
    exact this
  rcases h.2.2 with h0 | ⟨b, off, hy, hb, hc⟩
  · omega
  · injection hy with hy
    subst hy
    obtain ⟨⟨c0, c1, c2, c3, c4, c5, c6, c7⟩, -⟩ := hc (j / 8) (by omega)
    have hat := ptCells_at (firstP P len) (j / 8) (j % 8) (P (j / 8)) (by unfold firstP; rw [List.getElem?_map, List.getElem?_range (by omega)]; rfl) (by omega)
    rw [show j / 8 * 8 + j % 8 = j from by omega] at hat
    rw [hat] at hj
    rw [Addr.add_lit, show off + j = off + j / 8 * 8 + j % 8 from by omega]
    have hr : j % 8 < 8 := by omega
    generalize j % 8 = r at *
    match r, hr with
    | 0, _ => simp [ptVals] at hj; subst hj; exact c0
    | 1, _ => simp [ptVals] at hj; subst hj; exact c1
    | 2, _ => simp [ptVals] at hj; subst hj; exact c2
    | 3, _ => simp [ptVals] at hj; subst hj; exact c3
    | 4, _ => simp [ptVals] at hj; subst hj; exact c4
    | 5, _ => simp [ptVals] at hj; subst hj; exact c5
    | 6, _ => simp [ptVals] at hj; subst hj; exact c6
    | 7, _ => simp [ptVals] at hj; subst hj; exact c7
/-- A list of parts appended to an owned row, as one operation. -/
theorem op_append_parts {V w : World} {o : Oper} {act : Act} {K : Act → World → Prop} {Q : Exit → Act → World → Prop} (s x : Operand)
    (ho : o.op = .call { callee := .builtin .append, args := #[s, x], argTypes := #[24, 24] })
    (n : Nat) (v : Value) (A : List Pm) (hs : act.eval s = v) (hA : w.ownsRow V.heap.size 51 8 v n (ptCells A)) (y : Addr) (len cap : Nat) (P : Nat → Pm) (hx : act.eval x = .slice (some y) len cap) (hL : PartsIn w (some y) len cap P)
    (hlen : (n + len) * 96 ≤ 140737488351232) (hB : Below V.heap.size V w)
    (h : ∀ v' w', w'.ownsRow V.heap.size 51 8 v' (n + len) (ptCells (A ++ firstP P len)) → Below V.heap.size V w' → w.grownBy w' v.ownBlock → K (act.put o.dst v') w') : o.wp Try.prog act w K Q := by
  obtain ⟨i0, hi, hz0, hz1, hz2⟩ := info_parts infoPart
  refine wp_append_own w s x _ ho V.heap.size 51 i0 _ 8 96 Try.underlying24 hi hz0 hz1 hz2 rfl (by decide) _ _ _ hs hA y len cap (ptCells (firstP P len)) hx (by rw [ptCells_length, firstP_len]) (parts_cells hL) (ptCells_one _) (by unfold maxLen; omega) (by omega) hB.size ?_
  intro v' w' ho' hg' _
  rw [← ptCells_append] at ho'
  exact h v' w' ho' (hB.grown hg' hB.size (fun k hk => (hA.lt k hk).1)) hg'
theorem ownP_empty (w : World) (B : Nat) (h : B ≤ w.heap.size) : (w.alloc (.cells #[] 51)).ownsRow B 51 8 (.slice (some ⟨w.heap.size, 0, none⟩) 0 0) 0 (ptCells []) := by
  refine ⟨rfl, .inr ⟨w.heap.size, 0, #[], rfl, h, heap_alloc_new w _, Nat.le_refl _, Nat.zero_le _, rfl, rfl⟩⟩
end Go.Proofs.Ytoabncoigleiaaa
namespace Go.Proofs.Ytoabncoigleiaaa
open Go.RowKit
set_option linter.unusedVariables false
/-- Whether two parts are the same. -/
def SamePm (p q : Pm) : Prop := p.kind = q.kind ∧ p.lo = q.lo ∧ p.hi = q.hi ∧ p.op = q.op ∧ p.cnt = q.cnt ∧ p.s0 = q.s0 ∧ p.s1 = q.s1 ∧ p.el = q.el ∧ ∀ k, k < p.el → p.T k = q.T k
theorem rg_ne_same (lo hi : ByteArray) (op : Bool) (w : World) : (binOp .neq 43 (.agg #[.string lo, .string hi, .bool op]) (.agg #[.string lo, .string hi, .bool op])).run Try.prog w = .ok (.bool false) w := by
  rw [rg_ne_run]; simp
theorem ent_ne_sameF (k : ByteArray) (c n : Int) (v : ByteArray) (d : Bool) (w : World) : (binOp .neq 55 (.agg #[.string k, .int .i64 c, .int .i64 n, .string v, .bool d]) (.agg #[.string k, .int .i64 c, .int .i64 n, .string v, .bool d])).run Try.prog w = .ok (.bool false) w := by
  rw [run_neq_struct, show (10000 : Nat) = 9999 + 1 from rfl]
  go_simp
theorem name_same (a l n : Int) (w : World) : (binOp .eql 23 (.agg #[.int .i64 a, .int .i64 l, .int .i64 n]) (.agg #[.int .i64 a, .int .i64 l, .int .i64 n])).run Try.prog w = .ok (.bool true) w := by
  rw [name_run]; simp
set_option maxHeartbeats 6400000 in
set_option maxRecDepth 100000 in
theorem samePs_yes (a : Option Addr) (len ca : Nat) (P : Nat → Pm) (b : Option Addr) (cb : Nat) (Q : Nat → Pm) (w : World) (hA : PartsIn w a len ca P) (hB : PartsIn w b len cb Q) (hS : ∀ i, i < len → SamePm (P i) (Q i)) :
    Calls Try.prog 35 #[.slice a len ca, .slice b len cb] w fun e w' => e = .returned (.bool true) ∧ Below w.heap.size w w' := by
  have HA := aside hA
  have HQ := aside hB
  have HS := aside hS
  have hmx : (len : Int) ≤ 9223372036854775807 := by have h1 := hA.1; have h2 := hA.2.1; unfold maxLen at h2; omega
  clear hA hB hS
  go_enter Try.func35, Try.ntmps35
  go_wp2
  go_loopw [5] (fun i wr => ∃ j : Nat, i = .int .i64 (j : Int) ∧ j ≤ len ∧ Below w.heap.size w wr) (fun i _ => len - (intOf i).toNat)
  case atStart => exact ⟨0, rfl, Nat.zero_le _, Below.refl _ _⟩
  case round =>
    obtain ⟨j, rfl, hj, hBB⟩ := hrel
    have HB := aside hBB
    clear hBB
    by_cases hlt : (j : Int) < (len : Int)
    · have hj0 : (0 : Int) ≤ (j : Int) := by omega
      rcases (HA.out.keep HB.out).2.2 with h0 | ⟨b1, off1, rfl, hb1, hc1⟩
      · omega
      rcases (HQ.out.keep HB.out).2.2 with h0 | ⟨b2, off2, rfl, hb2, hc2⟩
      · omega
      obtain ⟨hat1, hin1⟩ := hc1 j (by omega)
      obtain ⟨hat2, hin2⟩ := hc2 j (by omega)
      have hsm := HS.out j (by omega)
      obtain ⟨p, hp⟩ : ∃ p, P j = p := ⟨_, rfl⟩
      obtain ⟨q, hq⟩ : ∃ q, Q j = q := ⟨_, rfl⟩
      rw [hp] at hat1 hin1 hsm
      rw [hq] at hat2 hin2 hsm
      clear hp hq hc1 hc2
      obtain ⟨kind, lo, hi, op, cnt, s0, s1, ea, el, ec, T⟩ := p
      obtain ⟨kind2, lo2, hi2, op2, cnt2, s02, s12, fa, el2, fc, U⟩ := q
      unfold SamePm at hsm
      dsimp only at hsm
      obtain ⟨rfl, rfl, rfl, rfl, rfl, rfl, rfl, rfl, hTU⟩ := hsm
      obtain ⟨c0, c1, c2, c3, c4, c5, c6, c7⟩ := hat1
      obtain ⟨d0, d1, d2, d3, d4, d5, d6, d7⟩ := hat2
      dsimp only at c0 c1 c2 c3 c4 c5 c6 c7 d0 d1 d2 d3 d4 d5 d6 d7
      have HTU := aside hTU
      have HI1 := aside (show EntsIn wr ea el ec T from hin1)
      have HI2 := aside (show EntsIn wr fa el fc U from hin2)
      clear hTU hin1 hin2
      have RQ := fun W => rg_ne_same lo hi op W
      have TQ := fun W => tal_ne_same cnt s0 s1 W
      have hmy : (el : Int) ≤ 9223372036854775807 := by have h1 := HI1.out.1; have h2 := HI1.out.2.1; unfold maxLen at h2; omega
      go_upto_region 7 with fail
      have K1 := heap_alloc_new wr (.cells #[.int .i64 kind, .string lo, .string hi, .bool op, .int .i64 cnt, .int .u64 s0, .int .u64 s1, .slice ea el ec] 51)
      have BA := bnew wr (.cells #[.int .i64 kind, .string lo, .string hi, .bool op, .int .i64 cnt, .int .u64 s0, .int .u64 s1, .slice ea el ec] 51)
      replace d0 := cell_in d0 BA
      replace d1 := cell_in d1 BA
      replace d2 := cell_in d2 BA
      replace d3 := cell_in d3 BA
      replace d4 := cell_in d4 BA
      replace d5 := cell_in d5 BA
      replace d6 := cell_in d6 BA
      replace d7 := cell_in d7 BA
      obtain ⟨g1, hg1⟩ : ∃ g, wr.heap.size = g := ⟨_, rfl⟩
      rw [hg1] at K1 ⊢
      clear c0 c1 c2 c3 c4 c5 c6 c7 hg1
      generalize wr.alloc (.cells #[.int .i64 kind, .string lo, .string hi, .bool op, .int .i64 cnt, .int .u64 s0, .int .u64 s1, .slice ea el ec] 51) = X1 at K1 BA d0 d1 d2 d3 d4 d5 d6 d7 ⊢
      go_upto_region 8 with fail
      have K2 := heap_alloc_new X1 (.cells #[.int .i64 kind, .string lo, .string hi, .bool op, .int .i64 cnt, .int .u64 s0, .int .u64 s1, .slice fa el fc] 51)
      have BB := bnew X1 (.cells #[.int .i64 kind, .string lo, .string hi, .bool op, .int .i64 cnt, .int .u64 s0, .int .u64 s1, .slice fa el fc] 51)
      replace K1 := blk_on K1 BB
      have BX2 := aside (bthen BA BB)
      obtain ⟨g2, hg2⟩ : ∃ g, X1.heap.size = g := ⟨_, rfl⟩
      rw [hg2] at K2 ⊢
      clear d0 d1 d2 d3 d4 d5 d6 d7 hg2 BA
      generalize X1.alloc (.cells #[.int .i64 kind, .string lo, .string hi, .bool op, .int .i64 cnt, .int .u64 s0, .int .u64 s1, .slice fa el fc] 51) = X2 at K1 K2 BB BX2 ⊢
      have KK1 := aside K1
      have KK2 := aside K2
      have BW2 := aside (HB.out.trans (BX2.out.mono HB.out.size))
      have HJ1 := aside (HI1.out.keep BX2.out)
      have HJ2 := aside (HI2.out.keep BX2.out)
      obtain ⟨c0, c1, c2, c3, c4, c5, c6, c7⟩ := oct8 K1
      obtain ⟨d0, d1, d2, d3, d4, d5, d6, d7⟩ := oct8 K2
      clear K1 K2 BB BX2 HI1 HI2 HB
      go_wp2
      clear c0 c1 c2 c3 c4 c5 c6 c7 d0 d1 d2 d3 d4 d5 d6 d7 RQ TQ
      go_loopw [8] (fun i wr => ∃ k : Nat, i = .int .i64 (k : Int) ∧ k ≤ el ∧ Below X2.heap.size X2 wr) (fun i _ => el - (intOf i).toNat)
      case atStart => exact ⟨0, rfl, Nat.zero_le _, Below.refl _ _⟩
      case round =>
        obtain ⟨k, rfl, hk, hBB⟩ := hrel
        have HB := aside hBB
        clear hBB
        obtain ⟨-, -, -, -, -, -, -, c7⟩ := oct8 (blk_on KK1.out HB.out)
        obtain ⟨-, -, -, -, -, -, -, d7⟩ := oct8 (blk_on KK2.out HB.out)
        by_cases hlk : (k : Int) < (el : Int)
        · have hk0 : (0 : Int) ≤ (k : Int) := by omega
          rcases (HJ1.out.keep HB.out).2.2 with h0 | ⟨x1, o1, rfl, hx1, hy1⟩
          · omega
          rcases (HJ2.out.keep HB.out).2.2 with h0 | ⟨x2, o2, rfl, hx2, hy2⟩
          · omega
          obtain ⟨⟨m0, m1, m2, m3, m4⟩, -⟩ := hy1 k (by omega)
          obtain ⟨⟨n0, n1, n2, n3, n4⟩, -⟩ := hy2 k (by omega)
          obtain ⟨t, ht⟩ : ∃ t, T k = t := ⟨_, rfl⟩
          have hu : U k = t := by rw [← HTU.out k (by omega)]; exact ht
          rw [ht] at m0 m1 m2 m3 m4
          rw [hu] at n0 n1 n2 n3 n4
          clear hy1 hy2 ht hu
          have SZ := aside (fun W (bb : Below wr.heap.size wr W) => (show W.cell? ⟨g1, 7, none⟩ = some (.slice (some ⟨x1, o1, none⟩) el ec) ∧ W.cell? ⟨g2, 7, none⟩ = some (.slice (some ⟨x2, o2, none⟩) el fc) ∧ (W.cell? ⟨x1, o1 + k * 5, none⟩ = some (.string t.k) ∧ W.cell? ⟨x1, o1 + k * 5 + 1, none⟩ = some (.int .i64 t.c) ∧ W.cell? ⟨x1, o1 + k * 5 + 2, none⟩ = some (.int .i64 t.n) ∧ W.cell? ⟨x1, o1 + k * 5 + 3, none⟩ = some (.string t.v) ∧ W.cell? ⟨x1, o1 + k * 5 + 4, none⟩ = some (.bool t.d)) ∧ (W.cell? ⟨x2, o2 + k * 5, none⟩ = some (.string t.k) ∧ W.cell? ⟨x2, o2 + k * 5 + 1, none⟩ = some (.int .i64 t.c) ∧ W.cell? ⟨x2, o2 + k * 5 + 2, none⟩ = some (.int .i64 t.n) ∧ W.cell? ⟨x2, o2 + k * 5 + 3, none⟩ = some (.string t.v) ∧ W.cell? ⟨x2, o2 + k * 5 + 4, none⟩ = some (.bool t.d)) from ⟨cell_in c7 bb, cell_in d7 bb, ⟨cell_in m0 bb, cell_in m1 bb, cell_in m2 bb, cell_in m3 bb, cell_in m4 bb⟩, cell_in n0 bb, cell_in n1 bb, cell_in n2 bb, cell_in n3 bb, cell_in n4 bb⟩))
          have EQ := fun W => ent_ne_sameF t.k t.c t.n t.v t.d W
          clear m0 m1 m2 m3 m4 n0 n1 n2 n3 n4
          go_wp2_with fail
          clear c7 d7
          refine wp_region_held_drew (S := fun W => (W.cell? ⟨g1, 7, none⟩ = some (.slice (some ⟨x1, o1, none⟩) el ec) ∧ W.cell? ⟨g2, 7, none⟩ = some (.slice (some ⟨x2, o2, none⟩) el fc) ∧ (W.cell? ⟨x1, o1 + k * 5, none⟩ = some (.string t.k) ∧ W.cell? ⟨x1, o1 + k * 5 + 1, none⟩ = some (.int .i64 t.c) ∧ W.cell? ⟨x1, o1 + k * 5 + 2, none⟩ = some (.int .i64 t.n) ∧ W.cell? ⟨x1, o1 + k * 5 + 3, none⟩ = some (.string t.v) ∧ W.cell? ⟨x1, o1 + k * 5 + 4, none⟩ = some (.bool t.d)) ∧ (W.cell? ⟨x2, o2 + k * 5, none⟩ = some (.string t.k) ∧ W.cell? ⟨x2, o2 + k * 5 + 1, none⟩ = some (.int .i64 t.c) ∧ W.cell? ⟨x2, o2 + k * 5 + 2, none⟩ = some (.int .i64 t.n) ∧ W.cell? ⟨x2, o2 + k * 5 + 3, none⟩ = some (.string t.v) ∧ W.cell? ⟨x2, o2 + k * 5 + 4, none⟩ = some (.bool t.d))) ∧ Below wr.heap.size wr W) (by kernel_rfl) ⟨SZ.out _ (Below.refl _ wr).drew, (Below.refl _ wr).drew⟩ (fun hHeld => ?_)
          refine wpAnyH_take (i := 0) (v := ?_) rfl (by kernel_rfl) (by kernel_rfl) (by kernel_rfl) (fun _ _ _ h => h) (Or.inl ⟨by rfl, ?_⟩) (by assumption) ?_
          rotate_left
          · intro w hSw
            go_simp
            try with_reducible rfl
          simp only [Act.put, List.getElem_toArray, List.getElem_cons_zero, List.setIfInBounds_toArray, List.set_cons_zero, List.set_cons_succ]
          refine wpAnyH_take (i := 1) (v := ?_) rfl (by kernel_rfl) (by kernel_rfl) (by kernel_rfl) (fun _ _ _ h => h) (Or.inl ⟨by rfl, ?_⟩) (by assumption) ?_
          rotate_left
          · intro w hSw
            go_simp
            try with_reducible rfl
          simp only [Act.put, List.getElem_toArray, List.getElem_cons_zero, List.getElem_cons_succ, List.setIfInBounds_toArray, List.set_cons_zero, List.set_cons_succ]
          refine wpAnyH_take (i := 2) (v := ?_) rfl (by kernel_rfl) (by kernel_rfl) (by kernel_rfl) (fun _ _ _ h => h) (Or.inl ⟨by rfl, ?_⟩) (by assumption) ?_
          rotate_left
          · intro w hSw
            go_simp
            try with_reducible rfl
          simp only [Act.put, List.getElem_toArray, List.getElem_cons_zero, List.getElem_cons_succ, List.setIfInBounds_toArray, List.set_cons_zero, List.set_cons_succ]
          refine wpAnyH_take (i := 3) (v := ?_) rfl (by kernel_rfl) (by kernel_rfl) (by kernel_rfl) (fun _ _ _ h => h) (Or.inl ⟨by rfl, ?_⟩) (by assumption) ?_
          rotate_left
          · intro w hSw
            go_simp
            try with_reducible rfl
          simp only [Act.put, List.getElem_toArray, List.getElem_cons_zero, List.getElem_cons_succ, List.setIfInBounds_toArray, List.set_cons_zero, List.set_cons_succ]
          refine wpAnyH_take (i := 4) (v := ?_) rfl (by kernel_rfl) (by kernel_rfl) (by kernel_rfl) (fun _ _ _ h => h) (Or.inl ⟨by rfl, ?_⟩) (by assumption) ?_
          rotate_left
          · intro w hSw
            go_simp
            try with_reducible rfl
          simp only [Act.put, List.getElem_toArray, List.getElem_cons_zero, List.getElem_cons_succ, List.setIfInBounds_toArray, List.set_cons_zero, List.set_cons_succ]
          refine wpAnyH_take (i := 5) (v := ?_) rfl (by kernel_rfl) (by kernel_rfl) (by kernel_rfl) (fun _ _ _ h => h) (Or.inl ⟨by rfl, ?_⟩) (by assumption) ?_
          rotate_left
          · intro w hSw
            go_simp
            try with_reducible rfl
          simp only [Act.put, List.getElem_toArray, List.getElem_cons_zero, List.getElem_cons_succ, List.setIfInBounds_toArray, List.set_cons_zero, List.set_cons_succ]
          refine wpAnyH_take (i := 6) (v := ?_) rfl (by kernel_rfl) (by kernel_rfl) (by kernel_rfl) (fun _ _ _ h => h) (Or.inl ⟨by rfl, ?_⟩) (by assumption) ?_
          rotate_left
          · intro w hSw
            go_simp
            try with_reducible rfl
          simp only [Act.put, List.getElem_toArray, List.getElem_cons_zero, List.getElem_cons_succ, List.setIfInBounds_toArray, List.set_cons_zero, List.set_cons_succ]
          refine wpAnyH_take (i := 7) (v := ?_) rfl (by kernel_rfl) (by kernel_rfl) (by kernel_rfl) (fun _ _ _ h => h) (Or.inl ⟨by rfl, ?_⟩) (by assumption) ?_
          rotate_left
          · intro w hSw
            go_simp
            try with_reducible rfl
          simp only [Act.put, List.getElem_toArray, List.getElem_cons_zero, List.getElem_cons_succ, List.setIfInBounds_toArray, List.set_cons_zero, List.set_cons_succ]
          refine wpAnyH_take (i := 8) (v := ?_) rfl (by kernel_rfl) (by kernel_rfl) (by kernel_rfl) (fun _ _ _ h => h) (Or.inl ⟨by rfl, ?_⟩) (by assumption) ?_
          rotate_left
          · intro w hSw
            go_simp
            try with_reducible rfl
          simp only [Act.put, List.getElem_toArray, List.getElem_cons_zero, List.getElem_cons_succ, List.setIfInBounds_toArray, List.set_cons_zero, List.set_cons_succ]
          refine wpAnyH_take (i := 9) (v := ?_) rfl (by kernel_rfl) (by kernel_rfl) (by kernel_rfl) (fun _ _ _ h => h) (Or.inl ⟨by rfl, ?_⟩) (by assumption) ?_
          rotate_left
          · intro w hSw
            go_simp
            try with_reducible rfl
          simp only [Act.put, List.getElem_toArray, List.getElem_cons_zero, List.getElem_cons_succ, List.setIfInBounds_toArray, List.set_cons_zero, List.set_cons_succ]
          refine wpAnyH_take (i := 10) (v := .bool false) rfl (by kernel_rfl) (by kernel_rfl) (by kernel_rfl) (fun _ _ _ h => h) (Or.inl ⟨by rfl, ?_⟩) (by assumption) ?_
          · intro w hSw
            go_simp
            try exact EQ _
          simp only [Act.put, List.getElem_toArray, List.getElem_cons_zero, List.getElem_cons_succ, List.setIfInBounds_toArray, List.set_cons_zero, List.set_cons_succ]
          refine wpAnyH_done (by kernel_rfl) ?_ _
          have B9 := aside hHeld.2
          clear hHeld SZ
          go_wp2
          go_roundw
          case rel => exact ⟨k + 1, by go_num, by omega, HB.out.trans (B9.out.mono HB.out.size)⟩
          case measure => simp [intOf]; omega
        · go_wp2
          go_roundw
          case rel => exact ⟨j + 1, by go_num, by omega, BW2.out.trans (HB.out.mono BW2.out.size)⟩
          case measure => simp [intOf]; omega
    · go_wp2
      go_ret
      exact ⟨rfl, HB.out⟩
set_option maxHeartbeats 3200000 in
theorem same_yes (fr tz o l n tn : Int) (a : Option Addr) (len ca : Nat) (P : Nat → Pm) (b : Option Addr) (cb : Nat) (Q : Nat → Pm) (w : World) (hA : PartsIn w a len ca P) (hB : PartsIn w b len cb Q) (hS : ∀ i, i < len → SamePm (P i) (Q i)) :
    Calls Try.prog 13 #[.agg #[.int .i64 fr, .int .i64 tz, .int .i64 o, .int .i64 l, .int .i64 n, .int .i64 tn, .slice a len ca], .agg #[.int .i64 fr, .int .i64 tz, .int .i64 o, .int .i64 l, .int .i64 n, .int .i64 tn, .slice b len cb]] w fun e w' => e = .returned (.bool true) ∧ Below w.heap.size w w' := by
  have BX := aside (bthen (bnew w (.cells #[.int .i64 fr, .int .i64 tz, .int .i64 o, .int .i64 l, .int .i64 n, .int .i64 tn, .slice a len ca] 26)) (bnew _ (.cells #[.int .i64 fr, .int .i64 tz, .int .i64 o, .int .i64 l, .int .i64 n, .int .i64 tn, .slice b len cb] 26)))
  have C := aside (samePs_yes a len ca P b cb Q _ (hA.keep BX.out) (hB.keep BX.out) hS)
  have NQ := fun W => name_same o l n W
  clear hA hB hS
  go_enter Try.func13, Try.ntmps13
  go_wp2_with fail
  refine C.out.mono ?_
  rintro e w1 ⟨rfl, b1⟩
  have B1 := aside (bthen BX.out b1)
  clear b1 C BX
  go_wp2
  go_ret
  exact ⟨rfl, B1.out⟩
end Go.Proofs.Ytoabncoigleiaaa

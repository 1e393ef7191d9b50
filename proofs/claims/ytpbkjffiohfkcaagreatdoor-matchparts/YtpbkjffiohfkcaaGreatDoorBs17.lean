/-
  A store, as a law meets it: by the entries that it holds.
-/
import Derived.Test.YtpbkjffiohfkcaaGreatDoorBs16
import Derived.Test.YtpbkjffiohfkcaaGreatDoorBs13
import Derived.Test.YtpbkjffiohfkcaaGreatDoorBs1
import Derived.OwnWalk
import Derived.Laws.OwnMore
import Derived.Test.YtpbkjffiohfkcaaGreatDoorBs3
namespace Go.Proofs.YtpbkjffiohfkcaaGreatDoor
open Go.RowKit
set_option linter.unusedVariables false
def Sto (w : World) (sb g tb : Nat) (nd ck : Int) (Ls : List En) : Prop := ∃ T n, IsSt w sb g tb nd ck T n ∧ Hol T Ls
theorem Sto.below {w w' : World} {sb g tb : Nat} {nd ck : Int} {Ls : List En} (h : Sto w sb g tb nd ck Ls) (b : Below w.heap.size w w') : Sto w' sb g tb nd ck Ls := by
 obtain ⟨T, n, h1, h2⟩ := h
 exact ⟨T, n, h1.below b, h2⟩
theorem Sto.not {w : World} {sb g tb : Nat} {nd ck : Int} {Ls : List En} (h : Sto w sb g tb nd ck Ls) {i : Nat} {cs : Array Value} {U : TypeId} (hi : w.heap[i]? = some (.cells cs U (0, 0))) (h1 : U ≠ 109) (h2 : U ≠ 148) (h3 : U ≠ 175) : ¬ Of sb g tb i := by
 obtain ⟨T, n, h4, h5⟩ := h
 exact h4.not hi h1 h2 h3
theorem Sto.lt {w : World} {sb g tb : Nat} {nd ck : Int} {Ls : List En} (h : Sto w sb g tb nd ck Ls) : sb < w.heap.size ∧ g < w.heap.size ∧ tb < w.heap.size := by
 obtain ⟨T, n, h1, h2⟩ := h
 exact h1.lt
theorem Sto.keep {w w' : World} {sb g tb sb' g' tb' : Nat} {nd ck nd' ck' : Int} {Ls Ls' : List En} (h : Sto w sb g tb nd ck Ls) (h' : Sto w sb' g' tb' nd' ck' Ls') (k : Keeps (Of sb' g' tb') w w') (a1 : sb ≠ sb') (a2 : g ≠ g') (a3 : tb ≠ tb') : Sto w' sb g tb nd ck Ls := by
 obtain ⟨T, n, h1, h2⟩ := h
 obtain ⟨T', n', h1', h2'⟩ := h'
 exact ⟨T, n, h1.keep h1' k a1 a2 a3, h2⟩
theorem qclock {w : World} {sb g tb : Nat} {nd ck : Int} {Ls : List En} (h : Sto w sb g tb nd ck Ls) : Calls Tryz.prog 36 #[.pointer (some ⟨sb, 0, none⟩)] w fun e w' => e = .returned (.int .i64 ck) ∧ w' = w := by
 obtain ⟨T, n, h1, h2⟩ := h
 exact sclock h1
theorem qtake (e : En) {w : World} {sb g tb : Nat} {nd ck : Int} {Ls : List En} (h : Sto w sb g tb nd ck Ls) (L : Lanes w) (hl : Ls.length ≤ 1000000) :
    Calls Tryz.prog 96 #[.pointer (some ⟨sb, 0, none⟩), .agg #[.string e.k, .int .i64 e.c, .int .i64 e.n, .string e.v, .bool e.d]] w fun r w' => r = .returned (.tuple #[.bool (tkSay e Ls).2, .int .i64 (tkSay e Ls).1]) ∧ Keeps (Of sb g tb) w w' ∧ Lanes w' ∧
     (((tkSay e Ls).2 = false ∧ Sto w' sb g tb nd ck Ls) ∨ ((tkSay e Ls).2 = true ∧ Sto w' sb g tb nd (ckm ck e.c) (insE e Ls))) := by
 obtain ⟨T, n, h1, h2⟩ := h
 refine (stake e h1 L h2 hl).mono fun r w' ⟨e1, e3, e4⟩ => ⟨e1, e3, L.keeps e3 (L.apart h1), e4.imp (fun ⟨a, i⟩ => ⟨a, _, _, i, h2⟩) (fun ⟨a, i⟩ => ⟨a, _, _, i, h2.put e⟩)⟩
theorem qfold (lo hi : ByteArray) (op : Bool) {w : World} {sb g tb : Nat} {nd ck : Int} {Ls : List En} (h : Sto w sb g tb nd ck Ls) (L : Lanes w) (hl : Ls.length ≤ 1000000) :
    Calls Tryz.prog 25 #[.pointer (some ⟨sb, 0, none⟩), .agg #[.string lo, .string hi, .bool op]] w fun r w' => r = .returned (.tuple #[.agg #[.int .i64 (foldV lo hi op Ls).n, .int .u64 (foldV lo hi op Ls).a, .int .u64 (foldV lo hi op Ls).b], .int .i64 (Rg.chk ⟨lo, hi, op⟩)]) ∧ Sto w' sb g tb nd ck Ls ∧ Keeps (Of sb g tb) w w' ∧ Lanes w' := by
 obtain ⟨T, n, h1, h2⟩ := h
 exact (sfold lo hi op h1 h2 hl).mono fun r w' ⟨e1, ⟨d, e2, e3⟩, e4⟩ => ⟨e1, ⟨_, _, e3, h2⟩, e4, L.keeps e4 (L.apart h1)⟩
theorem box5 {w : World} {i : Nat} {a b c d e : Value} {T : TypeId} (h : w.heap[i]? = some (.cells #[a, b, c, d, e] T (0, 0))) :
    (w.cell? ⟨i, 0, none⟩ = some a ∧ w.cell? ⟨i, 1, none⟩ = some b ∧ w.cell? ⟨i, 2, none⟩ = some c ∧ w.cell? ⟨i, 3, none⟩ = some d ∧ w.cell? ⟨i, 4, none⟩ = some e) ∧
    w.frozen? ⟨i, 0, none⟩ = false ∧ w.frozen? ⟨i, 1, none⟩ = false ∧ w.frozen? ⟨i, 2, none⟩ = false ∧ w.frozen? ⟨i, 3, none⟩ = false ∧ w.frozen? ⟨i, 4, none⟩ = false :=
 ⟨⟨by rw [cell_of_row _ _ 0 _ _ _ h]; rfl, by rw [cell_of_row _ _ 1 _ _ _ h]; rfl, by rw [cell_of_row _ _ 2 _ _ _ h]; rfl, by rw [cell_of_row _ _ 3 _ _ _ h]; rfl, by rw [cell_of_row _ _ 4 _ _ _ h]; rfl⟩,
  frozen_of_row _ _ 0 _ _ h, frozen_of_row _ _ 1 _ _ h, frozen_of_row _ _ 2 _ _ h, frozen_of_row _ _ 3 _ _ h, frozen_of_row _ _ 4 _ _ h⟩
theorem set5 {w W : World} {i : Nat} (b : Below w.heap.size w W) (hi : w.heap.size ≤ i) (u0 u1 u2 u3 u4 : Value) :
    Below w.heap.size w (((((W.setCell ⟨i, 0, none⟩ u0).setCell ⟨i, 1, none⟩ u1).setCell ⟨i, 2, none⟩ u2).setCell ⟨i, 3, none⟩ u3).setCell ⟨i, 4, none⟩ u4) :=
 ((((b.setCell (p := ⟨i, 0, none⟩) hi _).setCell (p := ⟨i, 1, none⟩) hi _).setCell (p := ⟨i, 2, none⟩) hi _).setCell (p := ⟨i, 3, none⟩) hi _).setCell (p := ⟨i, 4, none⟩) hi _
def EntsIn (w : World) (a : Option Addr) (len cap : Nat) (T : Nat → En) : Prop :=
 len ≤ cap ∧ cap ≤ maxLen ∧ (len = 0 ∨ ∃ b off, a = some ⟨b, off, none⟩ ∧ b < w.heap.size ∧ ∀ i, i < len →
  (w.cell? ⟨b, off + i * 5, none⟩ = some (.string (T i).k) ∧ w.cell? ⟨b, off + i * 5 + 1, none⟩ = some (.int .i64 (T i).c) ∧ w.cell? ⟨b, off + i * 5 + 2, none⟩ = some (.int .i64 (T i).n) ∧ w.cell? ⟨b, off + i * 5 + 3, none⟩ = some (.string (T i).v) ∧ w.cell? ⟨b, off + i * 5 + 4, none⟩ = some (.bool (T i).d)) ∧ (T i).k.size ≤ 140737488351232)
theorem EntsIn.keep {w w' : World} {a : Option Addr} {len cap : Nat} {T : Nat → En} (h : EntsIn w a len cap T) (b : Below w.heap.size w w') : EntsIn w' a len cap T := by
 obtain ⟨h1, h2, h3⟩ := h
 refine ⟨h1, h2, ?_⟩
 rcases h3 with h3 | ⟨bb, off, rfl, hb, hc⟩
 ·exact .inl h3
 ·refine .inr ⟨bb, off, rfl, by have := b.size; omega, fun i hi => ?_⟩
  obtain ⟨⟨c0, c1, c2, c3, c4⟩, hk⟩ := hc i hi
  exact ⟨⟨cell_in c0 b, cell_in c1 b, cell_in c2 b, cell_in c3 b, cell_in c4 b⟩, hk⟩
theorem quint {w : World} {i : Nat} {a b c d e : Value} {T : TypeId} (h : w.heap[i]? = some (.cells #[a, b, c, d, e] T (0, 0))) :
    w.cell? ⟨i, 0, none⟩ = some a ∧ w.cell? ⟨i, 1, none⟩ = some b ∧ w.cell? ⟨i, 2, none⟩ = some c ∧ w.cell? ⟨i, 3, none⟩ = some d ∧ w.cell? ⟨i, 4, none⟩ = some e :=
 ⟨by simp [World.cell?, h], by simp [World.cell?, h], by simp [World.cell?, h], by simp [World.cell?, h], by simp [World.cell?, h]⟩
def entVals (e : En) : List Value := [.string e.k, .int .i64 e.c, .int .i64 e.n, .string e.v, .bool e.d]
def entCells : List En → List Value
 | [] => []
 | e :: r => entVals e ++ entCells r
theorem entCells_length : ∀ l : List En, (entCells l).length = l.length * 5
 | [] => rfl
 | e :: r => by simp only [entCells, List.length_append, entCells_length r, List.length_cons, entVals]; simp; omega
theorem entCells_append : ∀ l m : List En, entCells (l ++ m) = entCells l ++ entCells m
 | [], _ => rfl
 | e :: r, m => by simp [entCells, entCells_append r m]
theorem entCells_at : ∀ (l : List En) (i r : Nat) (e : En), l[i]? = some e → r < 5 → (entCells l)[i * 5 + r]? = (entVals e)[r]?
 | [], i, r, e, h, _ => by simp at h
 | x :: t, 0, r, e, h, hr => by
  simp at h; subst h
  simp only [entCells]
  rw [List.getElem?_append_left (by simp [entVals]; omega)]
  simp
 | x :: t, i + 1, r, e, h, hr => by
  simp only [entCells]
  rw [List.getElem?_append_right (by simp [entVals]; omega)]
  have := entCells_at t i r e (by simpa using h) hr
  rw [← this]
  congr 1
  simp [entVals]
  omega
theorem entCells_one (l : List En) : ∀ u ∈ entCells l, u.oneCell' = true := by
 induction l with
 | nil => intro u hu; simp [entCells] at hu
 | cons e r ih =>
  intro u hu
  simp only [entCells, List.mem_append] at hu
  rcases hu with hu | hu
  ·simp [entVals] at hu
   rcases hu with rfl | rfl | rfl | rfl | rfl <;> rfl
  ·exact ih u hu
theorem infoEnt : (Tryz.prog.info? 77).map (fun i => (i.zero, i.size, i.bytes)) = some (some (.agg #[.string ⟨#[]⟩, .int .i64 0, .int .i64 0, .string ⟨#[]⟩, .bool false]), 5, 56) := by kernel_rfl
def nthE (l : List En) (i : Nat) : En := l.getD i ⟨⟨#[]⟩, 0, 0, ⟨#[]⟩, false⟩
theorem nthE_get {l : List En} {i : Nat} (h : i < l.length) : l[i]? = some (nthE l i) := by
 unfold nthE; rw [List.getD, List.getElem?_eq_getElem h]; rfl
def KeysOk (l : List En) : Prop := ∀ e ∈ l, e.k.size ≤ 140737488351232
theorem row_cells {w : World} {B g cap n : Nat} {l : List En} (h : w.ownsRow B 77 5 (.slice (some ⟨g, 0, none⟩) n cap) n (entCells l)) {i : Nat} (hi : i < l.length) :
    w.cell? ⟨g, i * 5, none⟩ = some (.string (nthE l i).k) ∧ w.cell? ⟨g, i * 5 + 1, none⟩ = some (.int .i64 (nthE l i).c) ∧ w.cell? ⟨g, i * 5 + 2, none⟩ = some (.int .i64 (nthE l i).n) ∧ w.cell? ⟨g, i * 5 + 3, none⟩ = some (.string (nthE l i).v) ∧ w.cell? ⟨g, i * 5 + 4, none⟩ = some (.bool (nthE l i).d) := by
 have hn : l.length = n := by have := h.1; rw [entCells_length] at this; omega
 have e := nthE_get hi
 have c : ∀ r, r < 5 → w.cell? ⟨g, i * 5 + r, none⟩ = (entVals (nthE l i))[r]? := fun r hr => by
  rw [h.cellAt (i * 5 + r) (by omega), entCells_at l i r _ e hr]
 exact ⟨by simpa [entVals] using c 0 (by omega), by simpa [entVals] using c 1 (by omega), by simpa [entVals] using c 2 (by omega), by simpa [entVals] using c 3 (by omega), by simpa [entVals] using c 4 (by omega)⟩
theorem row_max {w : World} {B g cap n : Nat} {xs : List Value} {e s : Nat} (h : w.ownsRow B e s (.slice (some ⟨g, 0, none⟩) n cap) n xs) : n ≤ cap ∧ cap ≤ maxLen := by
 rcases h.2 with ⟨h, _⟩ | ⟨g', cap', cur, h1, h2, h3, h4, h5, h6⟩
 ·cases h
 ·injection h1 with e1 e2 e3
  omega
theorem ents_of_row {w : World} {B g cap n : Nat} {l : List En} (h : w.ownsRow B 77 5 (.slice (some ⟨g, 0, none⟩) n cap) n (entCells l)) (hk : KeysOk l) {o m c : Nat} (hm : o + m ≤ n) (hc : m ≤ c) (hx : c ≤ maxLen) {a : Option Addr} (ha : m = 0 ∨ a = some ⟨g, o * 5, none⟩) :
    EntsIn w a m c (fun i => nthE l (o + i)) := by
 have hn : l.length = n := by have := h.1; rw [entCells_length] at this; omega
 refine ⟨hc, hx, ?_⟩
 rcases ha with ha | rfl
 ·exact .inl ha
 ·refine .inr ⟨g, o * 5, rfl, (h.lt g rfl).2, fun i hi => ⟨?_, hk _ ?_⟩⟩
  ·have := row_cells h (i := o + i) (by omega)
   rw [show (o + i) * 5 = o * 5 + i * 5 from by omega] at this
   exact this
  ·have := nthE_get (l := l) (i := o + i) (by omega)
   exact List.mem_of_getElem? this
theorem ents_cells {w : World} {y : Addr} {len cap : Nat} {T : Nat → En} (h : EntsIn w (some y) len cap T) : ∀ j u, (entCells ((List.range len).map T))[j]? = some u → w.cell? (y.add j) = some u := by
 intro j u hj
 have hjl : j < len * 5 := by
  have := (List.getElem?_eq_some_iff.1 hj).1
  rw [entCells_length] at this
  simpa using this
 rcases h.2.2 with h0 | ⟨b, off, hy, hb, hc⟩
 ·omega
 ·injection hy with hy
  subst hy
  obtain ⟨⟨c0, c1, c2, c3, c4⟩, -⟩ := hc (j / 5) (by omega)
  have hat := entCells_at ((List.range len).map T) (j / 5) (j % 5) (T (j / 5)) (by rw [List.getElem?_map, List.getElem?_range (by omega)]; rfl) (by omega)
  rw [show j / 5 * 5 + j % 5 = j from by omega] at hat
  rw [hat] at hj
  rw [Addr.add_lit, show off + j = off + j / 5 * 5 + j % 5 from by omega]
  have hr : j % 5 < 5 := by omega
  generalize j % 5 = r at *
  match r, hr with
  | 0, _ => simp [entVals] at hj; subst hj; exact c0
  | 1, _ => simp [entVals] at hj; subst hj; exact c1
  | 2, _ => simp [entVals] at hj; subst hj; exact c2
  | 3, _ => simp [entVals] at hj; subst hj; exact c3
  | 4, _ => simp [entVals] at hj; subst hj; exact c4
theorem op_append_copy {w : World} {o : Oper} {act : Act} {K : Act → World → Prop} {Q : Exit → Act → World → Prop} (s x : Operand)
    (ho : o.op = .call { callee := .builtin .append, args := #[s, x], argTypes := #[22, 22] })
    (hs : act.eval s = .slice none 0 0) (a : Option Addr) (len cap : Nat) (T : Nat → En) (hx : act.eval x = .slice a len cap) (hL : EntsIn w a len cap T)
    (hform : (a = none ∧ len = 0 ∧ cap = 0) ∨ ∃ y, a = some y) (hlen : len * 56 ≤ 140737488351232)
    (h : ∀ v' w', w'.ownsRow w.heap.size 77 5 v' len (entCells ((List.range len).map T)) → Below w.heap.size w w' → K (act.put o.dst v') w') : o.wp Tryz.prog act w K Q := by
 obtain ⟨i0, hi, hz0, hz1, hz2⟩ := info_parts infoEnt
 have hnil : w.ownsRow w.heap.size 77 5 (.slice none 0 0) 0 [] := World.ownsRow_nil _ _ _ _
 rcases hform with ⟨rfl, rfl, rfl⟩ | ⟨y, rfl⟩
 ·have hrun := run_append_owned_none (P := Tryz.prog) (w := w) w.heap.size 22 o.type 77 i0 5 Tryz.underlying22 hi _ _ _ hnil
  unfold Oper.wp
  simp [execOp, ho, resolve, invoke, builtin, hs, hx, hrun, Result.andThen]
  exact h _ w hnil (Below.refl _ _)
 ·refine wp_append_own w s x _ ho w.heap.size 77 i0 _ 5 56 Tryz.underlying22 hi hz0 hz1 hz2 rfl (by decide) _ _ _ hs hnil y len cap (entCells ((List.range len).map T)) hx (by rw [entCells_length]; simp) (ents_cells hL) (entCells_one _) (by unfold maxLen; omega) (by omega) (Nat.le_refl _) ?_
  intro v' w' ho' hg _
  have hbel : Below w.heap.size w w' := (Below.refl _ w).grown hg (Nat.le_refl _) (fun k e => by cases e)
  simp only [Nat.zero_add, List.nil_append] at ho'
  exact h v' w' ho' hbel
theorem op_append_ent {w : World} {o : Oper} {act : Act} {K : Act → World → Prop} {Q : Exit → Act → World → Prop} (s x : Operand)
    (ho : o.op = .call { callee := .builtin .append, args := #[s, x], argTypes := #[22, 22] })
    (B n : Nat) (v : Value) (l : List En) (hs : act.eval s = v) (hown : w.ownsRow B 77 5 v n (entCells l)) (b c : Nat) (e : En) (hx : act.eval x = .slice (some ⟨b, 0, none⟩) 1 c)
    (hb : w.heap[b]? = some (.cells #[.string e.k, .int .i64 e.c, .int .i64 e.n, .string e.v, .bool e.d] 77 (0, 0))) (hlen : n * 56 ≤ 140737488351232) (hB : B ≤ w.heap.size)
    (h : ∀ g cap w', w'.ownsRow B 77 5 (.slice (some ⟨g, 0, none⟩) (n + 1) cap) (n + 1) (entCells (l ++ [e])) → w.grownBy w' v.ownBlock → K (act.put o.dst (.slice (some ⟨g, 0, none⟩) (n + 1) cap)) w') : o.wp Tryz.prog act w K Q := by
 obtain ⟨i0, hi, hz0, hz1, hz2⟩ := info_parts infoEnt
 refine wp_append_own w s x _ ho B 77 i0 _ 5 56 Tryz.underlying22 hi hz0 hz1 hz2 rfl (by decide) _ _ _ hs hown ⟨b, 0, none⟩ 1 c (entVals e) hx rfl ?_ (fun u hu => entCells_one [e] u (by simpa [entCells] using hu)) (by unfold maxLen; omega) (by omega) hB ?_
 ·exact World.news_of_block (cs := #[.string e.k, .int .i64 e.c, .int .i64 e.n, .string e.v, .bool e.d]) (t := 77) (fr := (0, 0)) hb
 ·intro v' w' ho' hg _
  have e1 : entCells l ++ entVals e = entCells (l ++ [e]) := by rw [entCells_append]; simp [entCells]
  rw [e1] at ho'
  rcases ho'.2 with ⟨h1, h2⟩ | ⟨g, cap', cur, rfl, _⟩
  ·omega
  ·exact h g cap' w' ho' hg
theorem own_low {w : World} {base base' : Nat} {e : TypeId} {size : Nat} {v : Value} {n : Nat} {xs : List Value} (h : w.ownsRow base e size v n xs) (hb : base' ≤ base) : w.ownsRow base' e size v n xs := by
 refine ⟨h.1, ?_⟩
 rcases h.2 with h0 | ⟨g, cap, cur, h1, h2, h3⟩
 ·exact .inl h0
 ·exact .inr ⟨g, cap, cur, h1, Nat.le_trans hb h2, h3⟩
theorem own_on {w w' : World} {base : Nat} {e : TypeId} {size : Nat} {v : Value} {n : Nat} {xs : List Value} (h : w.ownsRow base e size v n xs) (hb : Below w.heap.size w w') : w'.ownsRow base e size v n xs := by
 refine ⟨h.1, ?_⟩
 rcases h.2 with h0 | ⟨g, cap, cur, h1, h2, h3, h4⟩
 ·exact .inl h0
 ·exact .inr ⟨g, cap, cur, h1, h2, blk_on h3 hb, h4⟩
def eZ : En := ⟨⟨#[]⟩, 0, 0, ⟨#[]⟩, false⟩
theorem chk_pos {e : En} (h : e.chk = 0) : 1 ≤ e.c ∧ e.k.size ≤ 16 ∧ 0 ≤ e.n := by
 unfold En.chk Vs.chk at h
 split at h
 ·omega
 ·split at h
  ·omega
  ·omega
structure MapL (l : List En) : Prop where
 rises : RisesE l
 chk : ∀ e ∈ l, e.chk = 0
theorem MapL.nil : MapL [] := ⟨List.Pairwise.nil, by simp⟩
theorem MapL.pos {l : List En} (h : MapL l) {e : En} (he : e ∈ l) : 1 ≤ e.c ∧ 0 ≤ e.n := ⟨(chk_pos (h.chk e he)).1, (chk_pos (h.chk e he)).2.2⟩
def firstE (T : Nat → En) (n : Nat) : List En := (List.range n).map T
theorem firstE_succ (T : Nat → En) (n : Nat) : firstE T (n + 1) = firstE T n ++ [T n] := by simp [firstE, List.range_succ]
theorem firstE_len (T : Nat → En) (n : Nat) : (firstE T n).length = n := by simp [firstE]
theorem firstE_get (T : Nat → En) {i n : Nat} (h : i < n) : (firstE T n)[i]? = some (T i) := by simp [firstE, h]
theorem firstE_nth (l : List En) : firstE (nthE l) l.length = l := by
 apply List.ext_getElem?
 intro i
 by_cases h : i < l.length
 ·rw [firstE_get _ h, nthE_get h]
 ·rw [List.getElem?_eq_none (by rw [firstE_len]; omega), List.getElem?_eq_none (by omega)]
theorem firstE_drop (T : Nat → En) {i n : Nat} (h : i < n) : (firstE T n).drop i = T i :: (firstE T n).drop (i + 1) := by
 have h1 := firstE_get T h
 rw [List.drop_eq_getElem_cons (by rw [firstE_len]; omega)]
 congr 1
 rw [List.getElem?_eq_getElem (by rw [firstE_len]; omega)] at h1
 injection h1
theorem firstE_end (T : Nat → En) {i n : Nat} (h : n ≤ i) : (firstE T n).drop i = [] := List.drop_eq_nil_of_le (by rw [firstE_len]; omega)
def ckAt (T : Nat → En) (i : Nat) : Int := if (T i).chk ≠ 0 then (T i).chk else if 0 < i ∧ kLt (T (i - 1)).k (T i).k = false then 90 else 0
def ckN (T : Nat → En) : Nat → Int
 | 0 => 0
 | n + 1 => if ckN T n ≠ 0 then ckN T n else ckAt T n
theorem ckN_step {T : Nat → En} {n : Nat} (h : ckN T n = 0) : ckN T (n + 1) = ckAt T n := by unfold ckN; rw [if_neg (by simp [h])]
theorem ckN_stay {T : Nat → En} {n : Nat} (h : ckN T n ≠ 0) : ∀ m, n ≤ m → ckN T m = ckN T n := by
 intro m hm
 induction m with
 | zero => obtain rfl : n = 0 := by omega
           rfl
 | succ m ih =>
  by_cases e : n = m + 1
  ·subst e; rfl
  ·have := ih (by omega)
   show (if ckN T m ≠ 0 then ckN T m else ckAt T m) = _
   rw [if_pos (by rw [this]; exact h), this]
theorem ckN_bad {T : Nat → En} {i n : Nat} (h0 : ckN T i = 0) (hi : i < n) (h : ckAt T i ≠ 0) : ckN T n = ckAt T i := by
 have h1 := ckN_step h0
 rw [← h1] at h
 rw [ckN_stay h n (by omega), h1]
theorem ckAt_ent {T : Nat → En} {i : Nat} (h : (T i).chk ≠ 0) : ckAt T i = (T i).chk := by unfold ckAt; rw [if_pos h]
theorem ckAt_ord {T : Nat → En} {i : Nat} (h : (T i).chk = 0) (h2 : 0 < i ∧ kLt (T (i - 1)).k (T i).k = false) : ckAt T i = 90 := by unfold ckAt; rw [if_neg (by simp [h]), if_pos h2]
theorem ckAt_ok {T : Nat → En} {i : Nat} (h : (T i).chk = 0) (h2 : ¬ (0 < i ∧ kLt (T (i - 1)).k (T i).k = false)) : ckAt T i = 0 := by unfold ckAt; rw [if_neg (by simp [h]), if_neg h2]
theorem rises_snoc {l : List En} {x : En} : RisesE (l ++ [x]) ↔ RisesE l ∧ ∀ y ∈ l, kLt y.k x.k = true := by
 unfold RisesE
 rw [List.pairwise_append]
 simp
theorem ck_map {T : Nat → En} : ∀ n, ckN T n = 0 ↔ MapL (firstE T n)
 | 0 => ⟨fun _ => MapL.nil, fun _ => rfl⟩
 | n + 1 => by
  have ih := ck_map (T := T) n
  rw [firstE_succ]
  constructor
  ·intro h
   have h0 : ckN T n = 0 := by
    apply Classical.byContradiction
    intro hn
    have := ckN_stay hn (n + 1) (by omega)
    rw [h] at this
    exact hn this.symm
   rw [ckN_step h0] at h
   have hm := ih.1 h0
   have hc : (T n).chk = 0 := by
    apply Classical.byContradiction
    intro hn
    rw [ckAt_ent hn] at h
    exact hn h
   have ho : ¬ (0 < n ∧ kLt (T (n - 1)).k (T n).k = false) := by
    intro hn
    rw [ckAt_ord hc hn] at h
    omega
   refine ⟨rises_snoc.2 ⟨hm.rises, ?_⟩, ?_⟩
   ·intro y hy
    cases n with
    | zero => simp [firstE] at hy
    | succ m =>
     have hk : kLt (T m).k (T (m + 1)).k = true := by
      cases hq : kLt (T m).k (T (m + 1)).k
      ·exact absurd ⟨by omega, hq⟩ ho
      ·rfl
     rw [firstE_succ] at hy
     rcases List.mem_append.1 hy with hy | hy
     ·have hr := hm.rises
      rw [firstE_succ] at hr
      exact kLt_trans ((rises_snoc.1 hr).2 y hy) hk
     ·rw [List.mem_singleton] at hy
      subst hy
      exact hk
   ·intro e he
    rcases List.mem_append.1 he with he | he
    ·exact hm.chk e he
    ·rw [List.mem_singleton] at he
     subst he
     exact hc
  ·intro h
   have h0 : ckN T n = 0 := ih.2 ⟨(rises_snoc.1 h.rises).1, fun e he => h.chk e (List.mem_append_left _ he)⟩
   rw [ckN_step h0]
   refine ckAt_ok (h.chk _ (List.mem_append_right _ (List.mem_singleton.2 rfl))) ?_
   rintro ⟨hn, hk⟩
   have := (rises_snoc.1 h.rises).2 (T (n - 1)) (by simp only [firstE, List.mem_map, List.mem_range]; exact ⟨n - 1, by omega, rfl⟩)
   rw [hk] at this
   cases this
def prs : List En → List En → List (En × En)
 | [], [] => []
 | x :: r, [] => (x, eZ) :: prs r []
 | [], y :: s => (eZ, y) :: prs [] s
 | x :: r, y :: s => if kLt x.k y.k = true then (x, eZ) :: prs r (y :: s) else if kLt y.k x.k = true then (eZ, y) :: prs (x :: r) s else (x, y) :: prs r s
termination_by a b => a.length + b.length
theorem prs_nil : prs [] [] = [] := by unfold prs; rfl
theorem prs_left (x : En) (r : List En) : prs (x :: r) [] = (x, eZ) :: prs r [] := by rw [prs]
theorem prs_right (y : En) (s : List En) : prs [] (y :: s) = (eZ, y) :: prs [] s := by rw [prs]
theorem prs_lt {x y : En} (r s : List En) (h : kLt x.k y.k = true) : prs (x :: r) (y :: s) = (x, eZ) :: prs r (y :: s) := by rw [prs, if_pos h]
theorem prs_gt {x y : En} (r s : List En) (h : kLt x.k y.k = false) (h2 : kLt y.k x.k = true) : prs (x :: r) (y :: s) = (eZ, y) :: prs (x :: r) s := by rw [prs, if_neg (by simp [h]), if_pos h2]
theorem prs_eq {x y : En} (r s : List En) (h : kLt x.k y.k = false) (h2 : kLt y.k x.k = false) : prs (x :: r) (y :: s) = (x, y) :: prs r s := by rw [prs, if_neg (by simp [h]), if_neg (by simp [h2])]
theorem prs_len (a b : List En) : (prs a b).length ≤ a.length + b.length := by
 induction a, b using prs.induct with
 | case1 => simp [prs_nil]
 | case2 x r ih => rw [prs_left]; simp at *; omega
 | case3 y s ih => rw [prs_right]; simp at *; omega
 | case4 x r y s h ih => rw [prs_lt r s h]; simp at *; omega
 | case5 x r y s h h2 ih => rw [prs_gt r s (by simpa using h) h2]; simp at *; omega
 | case6 x r y s h h2 ih => rw [prs_eq r s (by simpa using h) (by simpa using h2)]; simp at *; omega
def InP (a b : List En) (p : En × En) : Prop :=
 (p.1 ∈ a ∧ p.2 ∈ b ∧ p.1.k = p.2.k) ∨ (p.1 ∈ a ∧ p.2 = eZ ∧ ∀ y ∈ b, y.k ≠ p.1.k) ∨ (p.1 = eZ ∧ p.2 ∈ b ∧ ∀ x ∈ a, x.k ≠ p.2.k)
theorem rises_consE {x : En} {l : List En} : RisesE (x :: l) ↔ (∀ y ∈ l, kLt x.k y.k = true) ∧ RisesE l := by unfold RisesE; exact List.pairwise_cons
theorem rises_ne {x : En} {l : List En} (h : RisesE (x :: l)) : ∀ y ∈ l, y.k ≠ x.k := fun y hy e => kLt_ne ((rises_consE.1 h).1 y hy) e.symm
theorem low_ne {x y : En} {s : List En} (h : kLt x.k y.k = true) (hs : RisesE (y :: s)) : ∀ z ∈ y :: s, z.k ≠ x.k := by
 intro z hz e
 rcases List.mem_cons.1 hz with rfl | hz
 ·exact kLt_ne h e.symm
 ·exact kLt_ne (kLt_trans h ((rises_consE.1 hs).1 z hz)) e.symm
theorem mem_prs (a b : List En) : RisesE a → RisesE b → ∀ p, p ∈ prs a b ↔ InP a b p := by
 induction a, b using prs.induct with
 | case1 => intro _ _ p; simp [prs_nil, InP]
 | case2 x r ih =>
  intro ha hb p
  have i := ih (rises_consE.1 ha).2 hb p
  rw [prs_left, List.mem_cons, i]
  unfold InP
  constructor
  ·rintro (rfl | ⟨h1, h2, h3⟩ | ⟨h1, h2, h3⟩ | ⟨h1, h2, h3⟩)
   ·exact .inr (.inl ⟨List.mem_cons_self, rfl, by simp⟩)
   ·simp at h2
   ·exact .inr (.inl ⟨List.mem_cons_of_mem _ h1, h2, by simp⟩)
   ·simp at h2
  ·rintro (⟨h1, h2, h3⟩ | ⟨h1, h2, h3⟩ | ⟨h1, h2, h3⟩)
   ·simp at h2
   ·rcases List.mem_cons.1 h1 with e | h1
    ·exact .inl (Prod.ext e h2)
    ·exact .inr (.inr (.inl ⟨h1, h2, by simp⟩))
   ·simp at h2
 | case3 y s ih =>
  intro ha hb p
  have i := ih ha (rises_consE.1 hb).2 p
  rw [prs_right, List.mem_cons, i]
  unfold InP
  constructor
  ·rintro (rfl | ⟨h1, h2, h3⟩ | ⟨h1, h2, h3⟩ | ⟨h1, h2, h3⟩)
   ·exact .inr (.inr ⟨rfl, List.mem_cons_self, by simp⟩)
   ·simp at h1
   ·simp at h1
   ·exact .inr (.inr ⟨h1, List.mem_cons_of_mem _ h2, by simp⟩)
  ·rintro (⟨h1, h2, h3⟩ | ⟨h1, h2, h3⟩ | ⟨h1, h2, h3⟩)
   ·simp at h1
   ·simp at h1
   ·rcases List.mem_cons.1 h2 with e | h2
    ·exact .inl (Prod.ext h1 e)
    ·exact .inr (.inr (.inr ⟨h1, h2, by simp⟩))
 | case4 x r y s h ih =>
  intro ha hb p
  have i := ih (rises_consE.1 ha).2 hb p
  have f := low_ne h hb
  rw [prs_lt r s h, List.mem_cons, i]
  unfold InP
  constructor
  ·rintro (rfl | ⟨h1, h2, h3⟩ | ⟨h1, h2, h3⟩ | ⟨h1, h2, h3⟩)
   ·exact .inr (.inl ⟨List.mem_cons_self, rfl, f⟩)
   ·exact .inl ⟨List.mem_cons_of_mem _ h1, h2, h3⟩
   ·exact .inr (.inl ⟨List.mem_cons_of_mem _ h1, h2, h3⟩)
   ·refine .inr (.inr ⟨h1, h2, fun z hz => ?_⟩)
    rcases List.mem_cons.1 hz with rfl | hz
    ·exact fun e => f _ h2 e.symm
    ·exact h3 z hz
  ·rintro (⟨h1, h2, h3⟩ | ⟨h1, h2, h3⟩ | ⟨h1, h2, h3⟩)
   ·rcases List.mem_cons.1 h1 with e | h1
    ·exact absurd (e ▸ h3.symm) (f _ h2)
    ·exact .inr (.inl ⟨h1, h2, h3⟩)
   ·rcases List.mem_cons.1 h1 with e | h1
    ·exact .inl (Prod.ext e h2)
    ·exact .inr (.inr (.inl ⟨h1, h2, h3⟩))
   ·exact .inr (.inr (.inr ⟨h1, h2, fun z hz => h3 z (List.mem_cons_of_mem _ hz)⟩))
 | case5 x r y s h h' ih =>
  intro ha hb p
  have i := ih ha (rises_consE.1 hb).2 p
  have f := low_ne h' ha
  rw [prs_gt r s (by simpa using h) h', List.mem_cons, i]
  unfold InP
  constructor
  ·rintro (rfl | ⟨h1, h2, h3⟩ | ⟨h1, h2, h3⟩ | ⟨h1, h2, h3⟩)
   ·exact .inr (.inr ⟨rfl, List.mem_cons_self, f⟩)
   ·exact .inl ⟨h1, List.mem_cons_of_mem _ h2, h3⟩
   ·refine .inr (.inl ⟨h1, h2, fun z hz => ?_⟩)
    rcases List.mem_cons.1 hz with rfl | hz
    ·exact fun e => f _ h1 e.symm
    ·exact h3 z hz
   ·exact .inr (.inr ⟨h1, List.mem_cons_of_mem _ h2, h3⟩)
  ·rintro (⟨h1, h2, h3⟩ | ⟨h1, h2, h3⟩ | ⟨h1, h2, h3⟩)
   ·rcases List.mem_cons.1 h2 with e | h2
    ·exact absurd (e ▸ h3) (f _ h1)
    ·exact .inr (.inl ⟨h1, h2, h3⟩)
   ·exact .inr (.inr (.inl ⟨h1, h2, fun z hz => h3 z (List.mem_cons_of_mem _ hz)⟩))
   ·rcases List.mem_cons.1 h2 with e | h2
    ·exact .inl (Prod.ext h1 e)
    ·exact .inr (.inr (.inr ⟨h1, h2, h3⟩))
 | case6 x r y s h h' ih =>
  intro ha hb p
  have i := ih (rises_consE.1 ha).2 (rises_consE.1 hb).2 p
  have hk : x.k = y.k := kLt_total (by simpa using h) (by simpa using h')
  have f1 := rises_ne ha
  have f2 := rises_ne hb
  rw [prs_eq r s (by simpa using h) (by simpa using h'), List.mem_cons, i]
  unfold InP
  constructor
  ·rintro (rfl | ⟨h1, h2, h3⟩ | ⟨h1, h2, h3⟩ | ⟨h1, h2, h3⟩)
   ·exact .inl ⟨List.mem_cons_self, List.mem_cons_self, hk⟩
   ·exact .inl ⟨List.mem_cons_of_mem _ h1, List.mem_cons_of_mem _ h2, h3⟩
   ·refine .inr (.inl ⟨List.mem_cons_of_mem _ h1, h2, fun z hz => ?_⟩)
    rcases List.mem_cons.1 hz with rfl | hz
    ·exact fun e => f1 _ h1 (e.symm.trans hk.symm)
    ·exact h3 z hz
   ·refine .inr (.inr ⟨h1, List.mem_cons_of_mem _ h2, fun z hz => ?_⟩)
    rcases List.mem_cons.1 hz with rfl | hz
    ·exact fun e => f2 _ h2 (e.symm.trans hk)
    ·exact h3 z hz
  ·rintro (⟨h1, h2, h3⟩ | ⟨h1, h2, h3⟩ | ⟨h1, h2, h3⟩)
   ·rcases List.mem_cons.1 h1 with e | h1 <;> rcases List.mem_cons.1 h2 with e2 | h2
    ·exact .inl (Prod.ext e e2)
    ·exact absurd (h3.symm.trans ((congrArg En.k e).trans hk)) (f2 _ h2)
    ·exact absurd (h3.trans ((congrArg En.k e2).trans hk.symm)) (f1 _ h1)
    ·exact .inr (.inl ⟨h1, h2, h3⟩)
   ·rcases List.mem_cons.1 h1 with e | h1
    ·exact absurd (hk.symm.trans (congrArg En.k e).symm) (h3 y List.mem_cons_self)
    ·exact .inr (.inr (.inl ⟨h1, h2, fun z hz => h3 z (List.mem_cons_of_mem _ hz)⟩))
   ·rcases List.mem_cons.1 h2 with e | h2
    ·exact absurd (hk.trans (congrArg En.k e).symm) (h3 x List.mem_cons_self)
    ·exact .inr (.inr (.inr ⟨h1, h2, fun z hz => h3 z (List.mem_cons_of_mem _ hz)⟩))
def lkL (a b : List En) : List En := ((prs a b).filter (fun p => En.newer p.1 p.2)).map (fun p => p.1)
theorem newer_z {x : En} (h : 1 ≤ x.c ∧ 0 ≤ x.n) : En.newer eZ x = false ∧ En.newer x eZ = true := by
 constructor
 ·rw [newer_not]; simp [eZ]; omega
 ·rw [newer_iff]; simp [eZ]; omega
theorem mapL_tail {x : En} {l : List En} (h : MapL (x :: l)) : MapL l := ⟨(rises_consE.1 h.rises).2, fun e he => h.chk e (List.mem_cons_of_mem _ he)⟩
theorem mapL_sub {l m : List En} (h : MapL m) (s : l.Sublist m) : MapL l := ⟨List.Pairwise.sublist s h.rises, fun e he => h.chk e (s.subset he)⟩
theorem lk_sub (a b : List En) : MapL a → MapL b → (lkL a b).Sublist a := by
 induction a, b using prs.induct with
 | case1 => intro _ _; unfold lkL; rw [prs_nil]; exact List.Sublist.refl _
 | case2 x r ih =>
  intro ha hb
  have e : lkL (x :: r) [] = x :: lkL r [] := by unfold lkL; rw [prs_left, List.filter_cons_of_pos (by exact (newer_z (ha.pos List.mem_cons_self)).2), List.map_cons]
  rw [e]
  exact (ih (mapL_tail ha) hb).cons_cons x
 | case3 y s ih =>
  intro ha hb
  have e : lkL [] (y :: s) = lkL [] s := by unfold lkL; rw [prs_right, List.filter_cons_of_neg (by simp [(newer_z (hb.pos List.mem_cons_self)).1])]
  rw [e]
  exact ih ha (mapL_tail hb)
 | case4 x r y s h ih =>
  intro ha hb
  have e : lkL (x :: r) (y :: s) = x :: lkL r (y :: s) := by unfold lkL; rw [prs_lt r s h, List.filter_cons_of_pos (by exact (newer_z (ha.pos List.mem_cons_self)).2), List.map_cons]
  rw [e]
  exact (ih (mapL_tail ha) hb).cons_cons x
 | case5 x r y s h h' ih =>
  intro ha hb
  have e : lkL (x :: r) (y :: s) = lkL (x :: r) s := by unfold lkL; rw [prs_gt r s (by simpa using h) h', List.filter_cons_of_neg (by simp [(newer_z (hb.pos List.mem_cons_self)).1])]
  rw [e]
  exact ih ha (mapL_tail hb)
 | case6 x r y s h h' ih =>
  intro ha hb
  have i := ih (mapL_tail ha) (mapL_tail hb)
  cases hq : En.newer x y
  ·have e : lkL (x :: r) (y :: s) = lkL r s := by unfold lkL; rw [prs_eq r s (by simpa using h) (by simpa using h'), List.filter_cons_of_neg (by simp [hq])]
   rw [e]
   exact i.cons x
  ·have e : lkL (x :: r) (y :: s) = x :: lkL r s := by unfold lkL; rw [prs_eq r s (by simpa using h) (by simpa using h'), List.filter_cons_of_pos (by simp [hq]), List.map_cons]
   rw [e]
   exact i.cons_cons x
structure LdOk (nd ck : Int) (l : List En) : Prop where
 nd : nodeB nd = true
 c0 : 0 ≤ ck
 c1 : ck ≤ 1099511627776
 len : l.length ≤ 256
 map : MapL l
 ver : ∀ e ∈ l, e.c ≤ ck
theorem insE_end (e : En) : ∀ l : List En, (∀ y ∈ l, kLt y.k e.k = true) → insE e l = l ++ [e]
 | [], _ => rfl
 | y :: l, h => by
  have h1 := h y List.mem_cons_self
  unfold insE
  rw [if_neg (by rw [kLt_asymm h1]; simp), if_pos h1, insE_end e l (fun z hz => h z (List.mem_cons_of_mem _ hz))]
  rfl
theorem first_sub (T : Nat → En) {m n : Nat} (h : m ≤ n) : (firstE T m).Sublist (firstE T n) := by
 unfold firstE
 exact (List.range_sublist.2 h).map T
theorem first_mem {T : Nat → En} {j n : Nat} (h : j < n) : T j ∈ firstE T n := by
 unfold firstE
 exact List.mem_map.2 ⟨j, List.mem_range.2 h, rfl⟩
theorem ld_step {T : Nat → En} {j len : Nat} (h : MapL (firstE T len)) (hj : j < len) : insE (T j) (firstE T j) = firstE T (j + 1) := by
 have h1 : MapL (firstE T (j + 1)) := mapL_sub h (first_sub T (by omega))
 have h2 := h1.rises
 rw [firstE_succ, rises_snoc] at h2
 rw [firstE_succ, insE_end (T j) _ h2.2]
theorem ckm_low {ck c : Int} (h : c ≤ ck) : ckm ck c = ck := by
 unfold ckm
 rw [if_neg (by omega)]
theorem key_small {e : En} (h : e.chk = 0) : e.k.size ≤ 140737488351232 := by
 have := (chk_pos h).2.1
 omega
end Go.Proofs.YtpbkjffiohfkcaaGreatDoor

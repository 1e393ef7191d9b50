/-
  Best, the code's and the document's own, by contracts; the plain laws of the better of two.
  A list of entries in memory.
  Rows of entries that a call owns: their cells, copies by append, one entry appended.
  Lists of entries by rising keys.
  Plain mathematics of maps: which lists are maps, two of them side by side, the newest of both, what one lacks of the other.
  What MixTurned needs: a place among n; rows of entries that grow and shrink side by side; sums of lists.
-/
import Derived.Test.YtfkdhambbpkmpaaDoorBv1
import Derived.OwnWalk
import Derived.Laws.OwnMore
import Derived.Maps.AppendAt
namespace Go.Proofs.YtfkdhambbpkmpaaDoor
open Go.RowKit
set_option linter.unusedVariables false
/-- The better of the two. -/
def En.best (a b : En) : En := bif En.newer b a then b else a
theorem best_eqs {a b r : En} {q : Bool} (hq : En.newer b a = q) (h : En.best a b = r) : r = bif q then b else a := by rw [← h, ← hq]; rfl
/-- A block of five cells: what they are, and that they may be written. -/
theorem box5 {w : World} {i : Nat} {a b c d e : Value} {T : TypeId} (h : w.heap[i]? = some (.cells #[a, b, c, d, e] T (0, 0))) :
    (w.cell? ⟨i, 0, none⟩ = some a ∧ w.cell? ⟨i, 1, none⟩ = some b ∧ w.cell? ⟨i, 2, none⟩ = some c ∧ w.cell? ⟨i, 3, none⟩ = some d ∧ w.cell? ⟨i, 4, none⟩ = some e) ∧
    w.frozen? ⟨i, 0, none⟩ = false ∧ w.frozen? ⟨i, 1, none⟩ = false ∧ w.frozen? ⟨i, 2, none⟩ = false ∧ w.frozen? ⟨i, 3, none⟩ = false ∧ w.frozen? ⟨i, 4, none⟩ = false :=
  ⟨⟨by rw [cell_of_row _ _ 0 _ _ _ h]; rfl, by rw [cell_of_row _ _ 1 _ _ _ h]; rfl, by rw [cell_of_row _ _ 2 _ _ _ h]; rfl, by rw [cell_of_row _ _ 3 _ _ _ h]; rfl, by rw [cell_of_row _ _ 4 _ _ _ h]; rfl⟩,
    frozen_of_row _ _ 0 _ _ h, frozen_of_row _ _ 1 _ _ h, frozen_of_row _ _ 2 _ _ h, frozen_of_row _ _ 3 _ _ h, frozen_of_row _ _ 4 _ _ h⟩
theorem set5 {w W : World} {i : Nat} (b : Below w.heap.size w W) (hi : w.heap.size ≤ i) (u0 u1 u2 u3 u4 : Value) :
    Below w.heap.size w (((((W.setCell ⟨i, 0, none⟩ u0).setCell ⟨i, 1, none⟩ u1).setCell ⟨i, 2, none⟩ u2).setCell ⟨i, 3, none⟩ u3).setCell ⟨i, 4, none⟩ u4) :=
  ((((b.setCell (p := ⟨i, 0, none⟩) hi _).setCell (p := ⟨i, 1, none⟩) hi _).setCell (p := ⟨i, 2, none⟩) hi _).setCell (p := ⟨i, 3, none⟩) hi _).setCell (p := ⟨i, 4, none⟩) hi _
set_option maxHeartbeats 1600000 in
theorem best_any (ak : ByteArray) (ac an : Int) (av : ByteArray) (ad : Bool) (bk : ByteArray) (bc bn : Int) (bv : ByteArray) (bd : Bool) (rk : ByteArray) (rc rn : Int) (rv : ByteArray) (rd : Bool) (w : World) (h : En.best ⟨ak, ac, an, av, ad⟩ ⟨bk, bc, bn, bv, bd⟩ = ⟨rk, rc, rn, rv, rd⟩) :
    Calls Tryd.prog 30 #[.agg #[.string ak, .int .i64 ac, .int .i64 an, .string av, .bool ad], .agg #[.string bk, .int .i64 bc, .int .i64 bn, .string bv, .bool bd]] w fun e w' => e = .returned (.agg #[.string rk, .int .i64 rc, .int .i64 rn, .string rv, .bool rd]) ∧ Below w.heap.size w w' := by
  cases hq : En.newer ⟨bk, bc, bn, bv, bd⟩ ⟨ak, ac, an, av, ad⟩
  · have hr := best_eqs hq h
    simp only [cond, En.mk.injEq] at hr
    obtain ⟨rfl, rfl, rfl, rfl, rfl⟩ := hr
    have C := aside (fun w => newer_any _ _ _ _ _ _ _ _ _ _ _ w hq)
    clear hq h
    go_enter Tryd.func30, Tryd.ntmps30
    go_wp2_with fail
    refine (C.out _).mono ?_
    rintro e w1 ⟨rfl, b1⟩
    have kA := blk_on (blk_on (blk_on (heap_alloc_new w (.cells #[.string rk, .int .i64 rc, .int .i64 rn, .string rv, .bool rd] 55)) (bnew _ (.cells #[.string bk, .int .i64 bc, .int .i64 bn, .string bv, .bool bd] 55))) (bnew _ _)) b1
    have kR := blk_on (heap_alloc_new ((w.alloc (.cells #[.string rk, .int .i64 rc, .int .i64 rn, .string rv, .bool rd] 55)).alloc (.cells #[.string bk, .int .i64 bc, .int .i64 bn, .string bv, .bool bd] 55)) (.cells #[.string ⟨#[]⟩, .int .i64 0, .int .i64 0, .string ⟨#[]⟩, .bool false] 55)) b1
    rw [World.size_alloc, World.size_alloc] at kR
    have b0 := bthen (bthen (bthen (bnew w _) (bnew _ _)) (bnew _ _)) b1
    obtain ⟨⟨r0, r1, r2, r3, r4⟩, -⟩ := box5 kA
    obtain ⟨⟨s0, s1, s2, s3, s4⟩, f0, f1, f2, f3, f4⟩ := box5 kR
    have n1 := (Array.getElem?_eq_some_iff.1 kR).1
    clear kA kR b1
    go_wp2
    refine bodyPost_ret (v := .agg #[.string rk, .int .i64 rc, .int .i64 rn, .string rv, .bool rd]) (by simp [results, Tryd.results30, go_sem, s0, s1, s2, s3, s4]) rfl ⟨rfl, ?_⟩
    exact set5 b0 (by omega) _ _ _ _ _
  · have hr := best_eqs hq h
    simp only [cond, En.mk.injEq] at hr
    obtain ⟨rfl, rfl, rfl, rfl, rfl⟩ := hr
    have C := aside (fun w => newer_any _ _ _ _ _ _ _ _ _ _ _ w hq)
    clear hq h
    go_enter Tryd.func30, Tryd.ntmps30
    go_wp2_with fail
    refine (C.out _).mono ?_
    rintro e w1 ⟨rfl, b1⟩
    have kA := blk_on (blk_on (heap_alloc_new (w.alloc (.cells #[.string ak, .int .i64 ac, .int .i64 an, .string av, .bool ad] 55)) (.cells #[.string rk, .int .i64 rc, .int .i64 rn, .string rv, .bool rd] 55)) (bnew _ _)) b1
    rw [World.size_alloc] at kA
    have kR := blk_on (heap_alloc_new ((w.alloc (.cells #[.string ak, .int .i64 ac, .int .i64 an, .string av, .bool ad] 55)).alloc (.cells #[.string rk, .int .i64 rc, .int .i64 rn, .string rv, .bool rd] 55)) (.cells #[.string ⟨#[]⟩, .int .i64 0, .int .i64 0, .string ⟨#[]⟩, .bool false] 55)) b1
    rw [World.size_alloc, World.size_alloc] at kR
    have b0 := bthen (bthen (bthen (bnew w _) (bnew _ _)) (bnew _ _)) b1
    obtain ⟨⟨r0, r1, r2, r3, r4⟩, -⟩ := box5 kA
    obtain ⟨⟨s0, s1, s2, s3, s4⟩, f0, f1, f2, f3, f4⟩ := box5 kR
    have n1 := (Array.getElem?_eq_some_iff.1 kR).1
    clear kA kR b1
    go_wp2
    refine bodyPost_ret (v := .agg #[.string rk, .int .i64 rc, .int .i64 rn, .string rv, .bool rd]) (by simp [results, Tryd.results30, go_sem, s0, s1, s2, s3, s4]) rfl ⟨rfl, ?_⟩
    exact set5 b0 (by omega) _ _ _ _ _
set_option maxHeartbeats 1600000 in
theorem bestRef_any (ak : ByteArray) (ac an : Int) (av : ByteArray) (ad : Bool) (bk : ByteArray) (bc bn : Int) (bv : ByteArray) (bd : Bool) (rk : ByteArray) (rc rn : Int) (rv : ByteArray) (rd : Bool) (w : World) (h : En.best ⟨ak, ac, an, av, ad⟩ ⟨bk, bc, bn, bv, bd⟩ = ⟨rk, rc, rn, rv, rd⟩) :
    Calls Tryd.prog 38 #[.agg #[.string ak, .int .i64 ac, .int .i64 an, .string av, .bool ad], .agg #[.string bk, .int .i64 bc, .int .i64 bn, .string bv, .bool bd]] w fun e w' => e = .returned (.agg #[.string rk, .int .i64 rc, .int .i64 rn, .string rv, .bool rd]) ∧ Below w.heap.size w w' := by
  cases hq : En.newer ⟨bk, bc, bn, bv, bd⟩ ⟨ak, ac, an, av, ad⟩
  · have hr := best_eqs hq h
    simp only [cond, En.mk.injEq] at hr
    obtain ⟨rfl, rfl, rfl, rfl, rfl⟩ := hr
    have C := aside (fun w => newerRef_any _ _ _ _ _ _ _ _ _ _ _ w hq)
    clear hq h
    go_enter Tryd.func38, Tryd.ntmps38
    go_wp2_with fail
    refine (C.out _).mono ?_
    rintro e w1 ⟨rfl, b1⟩
    have kA := blk_on (blk_on (blk_on (heap_alloc_new w (.cells #[.string rk, .int .i64 rc, .int .i64 rn, .string rv, .bool rd] 55)) (bnew _ (.cells #[.string bk, .int .i64 bc, .int .i64 bn, .string bv, .bool bd] 55))) (bnew _ _)) b1
    have kR := blk_on (heap_alloc_new ((w.alloc (.cells #[.string rk, .int .i64 rc, .int .i64 rn, .string rv, .bool rd] 55)).alloc (.cells #[.string bk, .int .i64 bc, .int .i64 bn, .string bv, .bool bd] 55)) (.cells #[.string ⟨#[]⟩, .int .i64 0, .int .i64 0, .string ⟨#[]⟩, .bool false] 55)) b1
    rw [World.size_alloc, World.size_alloc] at kR
    have b0 := bthen (bthen (bthen (bnew w _) (bnew _ _)) (bnew _ _)) b1
    obtain ⟨⟨r0, r1, r2, r3, r4⟩, -⟩ := box5 kA
    obtain ⟨⟨s0, s1, s2, s3, s4⟩, f0, f1, f2, f3, f4⟩ := box5 kR
    have n1 := (Array.getElem?_eq_some_iff.1 kR).1
    clear kA kR b1
    go_wp2
    refine bodyPost_ret (v := .agg #[.string rk, .int .i64 rc, .int .i64 rn, .string rv, .bool rd]) (by simp [results, Tryd.results38, go_sem, s0, s1, s2, s3, s4]) rfl ⟨rfl, ?_⟩
    exact set5 b0 (by omega) _ _ _ _ _
  · have hr := best_eqs hq h
    simp only [cond, En.mk.injEq] at hr
    obtain ⟨rfl, rfl, rfl, rfl, rfl⟩ := hr
    have C := aside (fun w => newerRef_any _ _ _ _ _ _ _ _ _ _ _ w hq)
    clear hq h
    go_enter Tryd.func38, Tryd.ntmps38
    go_wp2_with fail
    refine (C.out _).mono ?_
    rintro e w1 ⟨rfl, b1⟩
    have kA := blk_on (blk_on (heap_alloc_new (w.alloc (.cells #[.string ak, .int .i64 ac, .int .i64 an, .string av, .bool ad] 55)) (.cells #[.string rk, .int .i64 rc, .int .i64 rn, .string rv, .bool rd] 55)) (bnew _ _)) b1
    rw [World.size_alloc] at kA
    have kR := blk_on (heap_alloc_new ((w.alloc (.cells #[.string ak, .int .i64 ac, .int .i64 an, .string av, .bool ad] 55)).alloc (.cells #[.string rk, .int .i64 rc, .int .i64 rn, .string rv, .bool rd] 55)) (.cells #[.string ⟨#[]⟩, .int .i64 0, .int .i64 0, .string ⟨#[]⟩, .bool false] 55)) b1
    rw [World.size_alloc, World.size_alloc] at kR
    have b0 := bthen (bthen (bthen (bnew w _) (bnew _ _)) (bnew _ _)) b1
    obtain ⟨⟨r0, r1, r2, r3, r4⟩, -⟩ := box5 kA
    obtain ⟨⟨s0, s1, s2, s3, s4⟩, f0, f1, f2, f3, f4⟩ := box5 kR
    have n1 := (Array.getElem?_eq_some_iff.1 kR).1
    clear kA kR b1
    go_wp2
    refine bodyPost_ret (v := .agg #[.string rk, .int .i64 rc, .int .i64 rn, .string rv, .bool rd]) (by simp [results, Tryd.results38, go_sem, s0, s1, s2, s3, s4]) rfl ⟨rfl, ?_⟩
    exact set5 b0 (by omega) _ _ _ _ _
end Go.Proofs.YtfkdhambbpkmpaaDoor
namespace Go.Proofs.YtfkdhambbpkmpaaDoor
open Go.RowKit
set_option linter.unusedVariables false
/-- A list of entries in memory, with keys of a size that memory has. -/
def EntsIn (w : World) (a : Option Addr) (len cap : Nat) (T : Nat → En) : Prop :=
  len ≤ cap ∧ cap ≤ maxLen ∧ (len = 0 ∨ ∃ b off, a = some ⟨b, off, none⟩ ∧ b < w.heap.size ∧ ∀ i, i < len →
    (w.cell? ⟨b, off + i * 5, none⟩ = some (.string (T i).k) ∧ w.cell? ⟨b, off + i * 5 + 1, none⟩ = some (.int .i64 (T i).c) ∧ w.cell? ⟨b, off + i * 5 + 2, none⟩ = some (.int .i64 (T i).n) ∧ w.cell? ⟨b, off + i * 5 + 3, none⟩ = some (.string (T i).v) ∧ w.cell? ⟨b, off + i * 5 + 4, none⟩ = some (.bool (T i).d)) ∧ (T i).k.size ≤ 140737488351232)
theorem EntsIn.keep {w w' : World} {a : Option Addr} {len cap : Nat} {T : Nat → En} (h : EntsIn w a len cap T) (b : Below w.heap.size w w') : EntsIn w' a len cap T := by
  obtain ⟨h1, h2, h3⟩ := h
  refine ⟨h1, h2, ?_⟩
  rcases h3 with h3 | ⟨bb, off, rfl, hb, hc⟩
  · exact .inl h3
  · refine .inr ⟨bb, off, rfl, by have := b.size; omega, fun i hi => ?_⟩
    obtain ⟨⟨c0, c1, c2, c3, c4⟩, hk⟩ := hc i hi
    exact ⟨⟨cell_in c0 b, cell_in c1 b, cell_in c2 b, cell_in c3 b, cell_in c4 b⟩, hk⟩
/-- The five cells of an entry's block. -/
theorem quint {w : World} {i : Nat} {a b c d e : Value} {T : TypeId} (h : w.heap[i]? = some (.cells #[a, b, c, d, e] T (0, 0))) :
    w.cell? ⟨i, 0, none⟩ = some a ∧ w.cell? ⟨i, 1, none⟩ = some b ∧ w.cell? ⟨i, 2, none⟩ = some c ∧ w.cell? ⟨i, 3, none⟩ = some d ∧ w.cell? ⟨i, 4, none⟩ = some e :=
  ⟨by simp [World.cell?, h], by simp [World.cell?, h], by simp [World.cell?, h], by simp [World.cell?, h], by simp [World.cell?, h]⟩
end Go.Proofs.YtfkdhambbpkmpaaDoor
namespace Go.Proofs.YtfkdhambbpkmpaaDoor
open Go.RowKit
set_option linter.unusedVariables false
def entVals (e : En) : List Value := [.string e.k, .int .i64 e.c, .int .i64 e.n, .string e.v, .bool e.d]
def entCells : List En → List Value
  | [] => []
  | e :: r => entVals e ++ entCells r
theorem entCells_length : ∀ l : List En, (entCells l).length = l.length * 5
  | [] => rfl
  | e :: r => by simp only [entCells, List.length_append, entCells_length r, List.length_cons, entVals]; simp; omega
theorem entCells_append : ∀ l m : List En, entCells (l ++ m) = entCells l ++ entCells m
  | [], _ => rfl
  | e :: r, m => by simp [entCells, entCells_append r m]
theorem entCells_at : ∀ (l : List En) (i r : Nat) (e : En), l[i]? = some e → r < 5 → (entCells l)[i * 5 + r]? = (entVals e)[r]?
  | [], i, r, e, h, _ => by simp at h
  | x :: t, 0, r, e, h, hr => by
    simp at h; subst h
    simp only [entCells]
    rw [List.getElem?_append_left (by simp [entVals]; omega)]
    simp
  | x :: t, i + 1, r, e, h, hr => by
    simp only [entCells]
    rw [List.getElem?_append_right (by simp [entVals]; omega)]
    have := entCells_at t i r e (by simpa using h) hr
    rw [← this]
    congr 1
    simp [entVals]
    omega
theorem entCells_one (l : List En) : ∀ u ∈ entCells l, u.oneCell' = true := by
  induction l with
  | nil => intro u hu; simp [entCells] at hu
  | cons e r ih =>
    intro u hu
    simp only [entCells, List.mem_append] at hu
    rcases hu with hu | hu
    · simp [entVals] at hu
      rcases hu with rfl | rfl | rfl | rfl | rfl <;> rfl
    · exact ih u hu
theorem infoEnt : (Tryd.prog.info? 55).map (fun i => (i.zero, i.size, i.bytes)) = some (some (.agg #[.string ⟨#[]⟩, .int .i64 0, .int .i64 0, .string ⟨#[]⟩, .bool false]), 5, 56) := by kernel_rfl
def nthE (l : List En) (i : Nat) : En := l.getD i ⟨⟨#[]⟩, 0, 0, ⟨#[]⟩, false⟩
theorem nthE_get {l : List En} {i : Nat} (h : i < l.length) : l[i]? = some (nthE l i) := by
  unfold nthE; rw [List.getD, List.getElem?_eq_getElem h]; rfl
def KeysOk (l : List En) : Prop := ∀ e ∈ l, e.k.size ≤ 140737488351232
/-- The cells of a part of an owned row. -/
theorem row_cells {w : World} {B g cap n : Nat} {l : List En} (h : w.ownsRow B 55 5 (.slice (some ⟨g, 0, none⟩) n cap) n (entCells l)) {i : Nat} (hi : i < l.length) :
    w.cell? ⟨g, i * 5, none⟩ = some (.string (nthE l i).k) ∧ w.cell? ⟨g, i * 5 + 1, none⟩ = some (.int .i64 (nthE l i).c) ∧ w.cell? ⟨g, i * 5 + 2, none⟩ = some (.int .i64 (nthE l i).n) ∧ w.cell? ⟨g, i * 5 + 3, none⟩ = some (.string (nthE l i).v) ∧ w.cell? ⟨g, i * 5 + 4, none⟩ = some (.bool (nthE l i).d) := by
  have hn : l.length = n := by have := h.1; rw [entCells_length] at this; omega
  have e := nthE_get hi
  have c : ∀ r, r < 5 → w.cell? ⟨g, i * 5 + r, none⟩ = (entVals (nthE l i))[r]? := fun r hr => by
    rw [h.cellAt (i * 5 + r) (by omega), entCells_at l i r _ e hr]
  exact ⟨by simpa [entVals] using c 0 (by omega), by simpa [entVals] using c 1 (by omega), by simpa [entVals] using c 2 (by omega), by simpa [entVals] using c 3 (by omega), by simpa [entVals] using c 4 (by omega)⟩
/-- A part of an owned row as a list of entries in memory: m entries from entry o on. -/
theorem ents_of_row {w : World} {B g cap n : Nat} {l : List En} (h : w.ownsRow B 55 5 (.slice (some ⟨g, 0, none⟩) n cap) n (entCells l)) (hk : KeysOk l) {o m c : Nat} (hm : o + m ≤ n) (hc : m ≤ c) (hx : c ≤ maxLen) {a : Option Addr} (ha : m = 0 ∨ a = some ⟨g, o * 5, none⟩) :
    EntsIn w a m c (fun i => nthE l (o + i)) := by
  have hn : l.length = n := by have := h.1; rw [entCells_length] at this; omega
  refine ⟨hc, hx, ?_⟩
  rcases ha with ha | rfl
  · exact .inl ha
  · refine .inr ⟨g, o * 5, rfl, (h.lt g rfl).2, fun i hi => ⟨?_, hk _ ?_⟩⟩
    · have := row_cells h (i := o + i) (by omega)
      rw [show (o + i) * 5 = o * 5 + i * 5 from by omega] at this
      exact this
    · have := nthE_get (l := l) (i := o + i) (by omega)
      exact List.mem_of_getElem? this
/-- One entry appended to an owned row, as one operation. -/
theorem op_append_ent {w : World} {o : Oper} {act : Act} {K : Act → World → Prop} {Q : Exit → Act → World → Prop} (s x : Operand)
    (ho : o.op = .call { callee := .builtin .append, args := #[s, x], argTypes := #[22, 22] })
    (B n : Nat) (v : Value) (l : List En) (hs : act.eval s = v) (hown : w.ownsRow B 55 5 v n (entCells l)) (b c : Nat) (e : En) (hx : act.eval x = .slice (some ⟨b, 0, none⟩) 1 c)
    (hb : w.heap[b]? = some (.cells #[.string e.k, .int .i64 e.c, .int .i64 e.n, .string e.v, .bool e.d] 55 (0, 0))) (hlen : n * 56 ≤ 140737488351232) (hB : B ≤ w.heap.size)
    (h : ∀ g cap w', w'.ownsRow B 55 5 (.slice (some ⟨g, 0, none⟩) (n + 1) cap) (n + 1) (entCells (l ++ [e])) → w.grownBy w' v.ownBlock → K (act.put o.dst (.slice (some ⟨g, 0, none⟩) (n + 1) cap)) w') : o.wp Tryd.prog act w K Q := by
  obtain ⟨i0, hi, hz0, hz1, hz2⟩ := info_parts infoEnt
  refine wp_append_own w s x _ ho B 55 i0 _ 5 56 Tryd.underlying22 hi hz0 hz1 hz2 rfl (by decide) _ _ _ hs hown ⟨b, 0, none⟩ 1 c (entVals e) hx rfl ?_ (fun u hu => entCells_one [e] u (by simpa [entCells] using hu)) (by unfold maxLen; omega) (by omega) hB ?_
  · exact World.news_of_block (cs := #[.string e.k, .int .i64 e.c, .int .i64 e.n, .string e.v, .bool e.d]) (t := 55) (fr := (0, 0)) hb
  · intro v' w' ho' hg _
    have e1 : entCells l ++ entVals e = entCells (l ++ [e]) := by rw [entCells_append]; simp [entCells]
    rw [e1] at ho'
    rcases ho'.2 with ⟨h1, h2⟩ | ⟨g, cap', cur, rfl, _⟩
    · omega
    · exact h g cap' w' ho' hg
theorem own_low {w : World} {base base' : Nat} {e : TypeId} {size : Nat} {v : Value} {n : Nat} {xs : List Value} (h : w.ownsRow base e size v n xs) (hb : base' ≤ base) : w.ownsRow base' e size v n xs := by
  refine ⟨h.1, ?_⟩
  rcases h.2 with h0 | ⟨g, cap, cur, h1, h2, h3⟩
  · exact .inl h0
  · exact .inr ⟨g, cap, cur, h1, Nat.le_trans hb h2, h3⟩
theorem own_on {w w' : World} {base : Nat} {e : TypeId} {size : Nat} {v : Value} {n : Nat} {xs : List Value} (h : w.ownsRow base e size v n xs) (hb : Below w.heap.size w w') : w'.ownsRow base e size v n xs := by
  refine ⟨h.1, ?_⟩
  rcases h.2 with h0 | ⟨g, cap, cur, h1, h2, h3, h4⟩
  · exact .inl h0
  · exact .inr ⟨g, cap, cur, h1, h2, blk_on h3 hb, h4⟩
end Go.Proofs.YtfkdhambbpkmpaaDoor
namespace Go.Proofs.YtfkdhambbpkmpaaDoor
open Go.RowKit
set_option linter.unusedVariables false
/-- Keys rise. -/
def RisesE (l : List En) : Prop := l.Pairwise (fun a b => kLt a.k b.k = true)
end Go.Proofs.YtfkdhambbpkmpaaDoor
namespace Go.Proofs.YtfkdhambbpkmpaaDoor
open Go.RowKit
set_option linter.unusedVariables false
theorem key_one {l : List En} (h : RisesE l) {x y : En} (hx : x ∈ l) (hy : y ∈ l) (hk : x.k = y.k) : x = y := by
  induction l with
  | nil => simp at hx
  | cons z l ih =>
    unfold RisesE at h
    rw [List.pairwise_cons] at h
    rcases List.mem_cons.1 hx with e1 | hx2 <;> rcases List.mem_cons.1 hy with e2 | hy2
    · rw [e1, e2]
    · have := h.1 y hy2; rw [← e1, hk, kLt_irrefl] at this; cases this
    · have := h.1 x hx2; rw [← e2, hk, kLt_irrefl] at this; cases this
    · exact ih h.2 hx2 hy2
/-- No entry. -/
def eZ : En := ⟨⟨#[]⟩, 0, 0, ⟨#[]⟩, false⟩
theorem chk_pos {e : En} (h : e.chk = 0) : 1 ≤ e.c ∧ e.k.size ≤ 16 ∧ 0 ≤ e.n := by
  unfold En.chk Vs.chk at h
  split at h
  · omega
  · split at h
    · omega
    · omega
/-- A list is a map. -/
structure MapL (l : List En) : Prop where
  rises : RisesE l
  chk : ∀ e ∈ l, e.chk = 0
theorem MapL.nil : MapL [] := ⟨List.Pairwise.nil, by simp⟩
theorem MapL.pos {l : List En} (h : MapL l) {e : En} (he : e ∈ l) : 1 ≤ e.c ∧ 0 ≤ e.n := ⟨(chk_pos (h.chk e he)).1, (chk_pos (h.chk e he)).2.2⟩
def firstE (T : Nat → En) (n : Nat) : List En := (List.range n).map T
theorem firstE_succ (T : Nat → En) (n : Nat) : firstE T (n + 1) = firstE T n ++ [T n] := by simp [firstE, List.range_succ]
theorem firstE_len (T : Nat → En) (n : Nat) : (firstE T n).length = n := by simp [firstE]
theorem firstE_get (T : Nat → En) {i n : Nat} (h : i < n) : (firstE T n)[i]? = some (T i) := by simp [firstE, h]
theorem firstE_nth (l : List En) : firstE (nthE l) l.length = l := by
  apply List.ext_getElem?
  intro i
  by_cases h : i < l.length
  · rw [firstE_get _ h, nthE_get h]
  · rw [List.getElem?_eq_none (by rw [firstE_len]; omega), List.getElem?_eq_none (by omega)]
theorem firstE_drop (T : Nat → En) {i n : Nat} (h : i < n) : (firstE T n).drop i = T i :: (firstE T n).drop (i + 1) := by
  have h1 := firstE_get T h
  rw [List.drop_eq_getElem_cons (by rw [firstE_len]; omega)]
  congr 1
  rw [List.getElem?_eq_getElem (by rw [firstE_len]; omega)] at h1
  injection h1
theorem firstE_end (T : Nat → En) {i n : Nat} (h : n ≤ i) : (firstE T n).drop i = [] := List.drop_eq_nil_of_le (by rw [firstE_len]; omega)
/-- What is wrong with entry i. -/
def ckAt (T : Nat → En) (i : Nat) : Int := if (T i).chk ≠ 0 then (T i).chk else if 0 < i ∧ kLt (T (i - 1)).k (T i).k = false then 90 else 0
/-- What is wrong first with n entries. -/
def ckN (T : Nat → En) : Nat → Int
  | 0 => 0
  | n + 1 => if ckN T n ≠ 0 then ckN T n else ckAt T n
theorem ckN_step {T : Nat → En} {n : Nat} (h : ckN T n = 0) : ckN T (n + 1) = ckAt T n := by unfold ckN; rw [if_neg (by simp [h])]
theorem ckN_stay {T : Nat → En} {n : Nat} (h : ckN T n ≠ 0) : ∀ m, n ≤ m → ckN T m = ckN T n := by
  intro m hm
  induction m with
  | zero => obtain rfl : n = 0 := by omega
            rfl
  | succ m ih =>
    by_cases e : n = m + 1
    · subst e; rfl
    · have := ih (by omega)
      show (if ckN T m ≠ 0 then ckN T m else ckAt T m) = _
      rw [if_pos (by rw [this]; exact h), this]
theorem ckN_bad {T : Nat → En} {i n : Nat} (h0 : ckN T i = 0) (hi : i < n) (h : ckAt T i ≠ 0) : ckN T n = ckAt T i := by
  have h1 := ckN_step h0
  rw [← h1] at h
  rw [ckN_stay h n (by omega), h1]
theorem ckAt_ent {T : Nat → En} {i : Nat} (h : (T i).chk ≠ 0) : ckAt T i = (T i).chk := by unfold ckAt; rw [if_pos h]
theorem ckAt_ord {T : Nat → En} {i : Nat} (h : (T i).chk = 0) (h2 : 0 < i ∧ kLt (T (i - 1)).k (T i).k = false) : ckAt T i = 90 := by unfold ckAt; rw [if_neg (by simp [h]), if_pos h2]
theorem ckAt_ok {T : Nat → En} {i : Nat} (h : (T i).chk = 0) (h2 : ¬ (0 < i ∧ kLt (T (i - 1)).k (T i).k = false)) : ckAt T i = 0 := by unfold ckAt; rw [if_neg (by simp [h]), if_neg h2]
theorem rises_snoc {l : List En} {x : En} : RisesE (l ++ [x]) ↔ RisesE l ∧ ∀ y ∈ l, kLt y.k x.k = true := by
  unfold RisesE
  rw [List.pairwise_append]
  simp
theorem ck_map {T : Nat → En} : ∀ n, ckN T n = 0 ↔ MapL (firstE T n)
  | 0 => ⟨fun _ => MapL.nil, fun _ => rfl⟩
  | n + 1 => by
    have ih := ck_map (T := T) n
    rw [firstE_succ]
    constructor
    · intro h
      have h0 : ckN T n = 0 := by
        apply Classical.byContradiction
        intro hn
        have := ckN_stay hn (n + 1) (by omega)
        rw [h] at this
        exact hn this.symm
      rw [ckN_step h0] at h
      have hm := ih.1 h0
      have hc : (T n).chk = 0 := by
        apply Classical.byContradiction
        intro hn
        rw [ckAt_ent hn] at h
        exact hn h
      have ho : ¬ (0 < n ∧ kLt (T (n - 1)).k (T n).k = false) := by
        intro hn
        rw [ckAt_ord hc hn] at h
        omega
      refine ⟨rises_snoc.2 ⟨hm.rises, ?_⟩, ?_⟩
      · intro y hy
        cases n with
        | zero => simp [firstE] at hy
        | succ m =>
          have hk : kLt (T m).k (T (m + 1)).k = true := by
            cases hq : kLt (T m).k (T (m + 1)).k
            · exact absurd ⟨by omega, hq⟩ ho
            · rfl
          rw [firstE_succ] at hy
          rcases List.mem_append.1 hy with hy | hy
          · have hr := hm.rises
            rw [firstE_succ] at hr
            exact kLt_trans ((rises_snoc.1 hr).2 y hy) hk
          · rw [List.mem_singleton] at hy
            subst hy
            exact hk
      · intro e he
        rcases List.mem_append.1 he with he | he
        · exact hm.chk e he
        · rw [List.mem_singleton] at he
          subst he
          exact hc
    · intro h
      have h0 : ckN T n = 0 := ih.2 ⟨(rises_snoc.1 h.rises).1, fun e he => h.chk e (List.mem_append_left _ he)⟩
      rw [ckN_step h0]
      refine ckAt_ok (h.chk _ (List.mem_append_right _ (List.mem_singleton.2 rfl))) ?_
      rintro ⟨hn, hk⟩
      have := (rises_snoc.1 h.rises).2 (T (n - 1)) (by simp only [firstE, List.mem_map, List.mem_range]; exact ⟨n - 1, by omega, rfl⟩)
      rw [hk] at this
      cases this
/-- Two maps side by side. -/
def prs : List En → List En → List (En × En)
  | [], [] => []
  | x :: r, [] => (x, eZ) :: prs r []
  | [], y :: s => (eZ, y) :: prs [] s
  | x :: r, y :: s => if kLt x.k y.k = true then (x, eZ) :: prs r (y :: s) else if kLt y.k x.k = true then (eZ, y) :: prs (x :: r) s else (x, y) :: prs r s
termination_by a b => a.length + b.length
theorem prs_nil : prs [] [] = [] := by unfold prs; rfl
theorem prs_left (x : En) (r : List En) : prs (x :: r) [] = (x, eZ) :: prs r [] := by rw [prs]
theorem prs_right (y : En) (s : List En) : prs [] (y :: s) = (eZ, y) :: prs [] s := by rw [prs]
theorem prs_lt {x y : En} (r s : List En) (h : kLt x.k y.k = true) : prs (x :: r) (y :: s) = (x, eZ) :: prs r (y :: s) := by rw [prs, if_pos h]
theorem prs_gt {x y : En} (r s : List En) (h : kLt x.k y.k = false) (h2 : kLt y.k x.k = true) : prs (x :: r) (y :: s) = (eZ, y) :: prs (x :: r) s := by rw [prs, if_neg (by simp [h]), if_pos h2]
theorem prs_eq {x y : En} (r s : List En) (h : kLt x.k y.k = false) (h2 : kLt y.k x.k = false) : prs (x :: r) (y :: s) = (x, y) :: prs r s := by rw [prs, if_neg (by simp [h]), if_neg (by simp [h2])]
theorem prs_len (a b : List En) : (prs a b).length ≤ a.length + b.length := by
  induction a, b using prs.induct with
  | case1 => simp [prs_nil]
  | case2 x r ih => rw [prs_left]; simp at *; omega
  | case3 y s ih => rw [prs_right]; simp at *; omega
  | case4 x r y s h ih => rw [prs_lt r s h]; simp at *; omega
  | case5 x r y s h h2 ih => rw [prs_gt r s (by simpa using h) h2]; simp at *; omega
  | case6 x r y s h h2 ih => rw [prs_eq r s (by simpa using h) (by simpa using h2)]; simp at *; omega
/-- What is among the pairs. -/
def InP (a b : List En) (p : En × En) : Prop :=
  (p.1 ∈ a ∧ p.2 ∈ b ∧ p.1.k = p.2.k) ∨ (p.1 ∈ a ∧ p.2 = eZ ∧ ∀ y ∈ b, y.k ≠ p.1.k) ∨ (p.1 = eZ ∧ p.2 ∈ b ∧ ∀ x ∈ a, x.k ≠ p.2.k)
theorem rises_consE {x : En} {l : List En} : RisesE (x :: l) ↔ (∀ y ∈ l, kLt x.k y.k = true) ∧ RisesE l := by unfold RisesE; exact List.pairwise_cons
theorem rises_ne {x : En} {l : List En} (h : RisesE (x :: l)) : ∀ y ∈ l, y.k ≠ x.k := fun y hy e => kLt_ne ((rises_consE.1 h).1 y hy) e.symm
theorem low_ne {x y : En} {s : List En} (h : kLt x.k y.k = true) (hs : RisesE (y :: s)) : ∀ z ∈ y :: s, z.k ≠ x.k := by
  intro z hz e
  rcases List.mem_cons.1 hz with rfl | hz
  · exact kLt_ne h e.symm
  · exact kLt_ne (kLt_trans h ((rises_consE.1 hs).1 z hz)) e.symm
theorem mem_prs (a b : List En) : RisesE a → RisesE b → ∀ p, p ∈ prs a b ↔ InP a b p := by
  induction a, b using prs.induct with
  | case1 => intro _ _ p; simp [prs_nil, InP]
  | case2 x r ih =>
    intro ha hb p
    have i := ih (rises_consE.1 ha).2 hb p
    rw [prs_left, List.mem_cons, i]
    unfold InP
    constructor
    · rintro (rfl | ⟨h1, h2, h3⟩ | ⟨h1, h2, h3⟩ | ⟨h1, h2, h3⟩)
      · exact .inr (.inl ⟨List.mem_cons_self, rfl, by simp⟩)
      · simp at h2
      · exact .inr (.inl ⟨List.mem_cons_of_mem _ h1, h2, by simp⟩)
      · simp at h2
    · rintro (⟨h1, h2, h3⟩ | ⟨h1, h2, h3⟩ | ⟨h1, h2, h3⟩)
      · simp at h2
      · rcases List.mem_cons.1 h1 with e | h1
        · exact .inl (Prod.ext e h2)
        · exact .inr (.inr (.inl ⟨h1, h2, by simp⟩))
      · simp at h2
  | case3 y s ih =>
    intro ha hb p
    have i := ih ha (rises_consE.1 hb).2 p
    rw [prs_right, List.mem_cons, i]
    unfold InP
    constructor
    · rintro (rfl | ⟨h1, h2, h3⟩ | ⟨h1, h2, h3⟩ | ⟨h1, h2, h3⟩)
      · exact .inr (.inr ⟨rfl, List.mem_cons_self, by simp⟩)
      · simp at h1
      · simp at h1
      · exact .inr (.inr ⟨h1, List.mem_cons_of_mem _ h2, by simp⟩)
    · rintro (⟨h1, h2, h3⟩ | ⟨h1, h2, h3⟩ | ⟨h1, h2, h3⟩)
      · simp at h1
      · simp at h1
      · rcases List.mem_cons.1 h2 with e | h2
        · exact .inl (Prod.ext h1 e)
        · exact .inr (.inr (.inr ⟨h1, h2, by simp⟩))
  | case4 x r y s h ih =>
    intro ha hb p
    have i := ih (rises_consE.1 ha).2 hb p
    have f := low_ne h hb
    rw [prs_lt r s h, List.mem_cons, i]
    unfold InP
    constructor
    · rintro (rfl | ⟨h1, h2, h3⟩ | ⟨h1, h2, h3⟩ | ⟨h1, h2, h3⟩)
      · exact .inr (.inl ⟨List.mem_cons_self, rfl, f⟩)
      · exact .inl ⟨List.mem_cons_of_mem _ h1, h2, h3⟩
      · exact .inr (.inl ⟨List.mem_cons_of_mem _ h1, h2, h3⟩)
      · refine .inr (.inr ⟨h1, h2, fun z hz => ?_⟩)
        rcases List.mem_cons.1 hz with rfl | hz
        · exact fun e => f _ h2 e.symm
        · exact h3 z hz
    · rintro (⟨h1, h2, h3⟩ | ⟨h1, h2, h3⟩ | ⟨h1, h2, h3⟩)
      · rcases List.mem_cons.1 h1 with e | h1
        · exact absurd (e ▸ h3.symm) (f _ h2)
        · exact .inr (.inl ⟨h1, h2, h3⟩)
      · rcases List.mem_cons.1 h1 with e | h1
        · exact .inl (Prod.ext e h2)
        · exact .inr (.inr (.inl ⟨h1, h2, h3⟩))
      · exact .inr (.inr (.inr ⟨h1, h2, fun z hz => h3 z (List.mem_cons_of_mem _ hz)⟩))
  | case5 x r y s h h' ih =>
    intro ha hb p
    have i := ih ha (rises_consE.1 hb).2 p
    have f := low_ne h' ha
    rw [prs_gt r s (by simpa using h) h', List.mem_cons, i]
    unfold InP
    constructor
    · rintro (rfl | ⟨h1, h2, h3⟩ | ⟨h1, h2, h3⟩ | ⟨h1, h2, h3⟩)
      · exact .inr (.inr ⟨rfl, List.mem_cons_self, f⟩)
      · exact .inl ⟨h1, List.mem_cons_of_mem _ h2, h3⟩
      · refine .inr (.inl ⟨h1, h2, fun z hz => ?_⟩)
        rcases List.mem_cons.1 hz with rfl | hz
        · exact fun e => f _ h1 e.symm
        · exact h3 z hz
      · exact .inr (.inr ⟨h1, List.mem_cons_of_mem _ h2, h3⟩)
    · rintro (⟨h1, h2, h3⟩ | ⟨h1, h2, h3⟩ | ⟨h1, h2, h3⟩)
      · rcases List.mem_cons.1 h2 with e | h2
        · exact absurd (e ▸ h3) (f _ h1)
        · exact .inr (.inl ⟨h1, h2, h3⟩)
      · exact .inr (.inr (.inl ⟨h1, h2, fun z hz => h3 z (List.mem_cons_of_mem _ hz)⟩))
      · rcases List.mem_cons.1 h2 with e | h2
        · exact .inl (Prod.ext h1 e)
        · exact .inr (.inr (.inr ⟨h1, h2, h3⟩))
  | case6 x r y s h h' ih =>
    intro ha hb p
    have i := ih (rises_consE.1 ha).2 (rises_consE.1 hb).2 p
    have hk : x.k = y.k := kLt_total (by simpa using h) (by simpa using h')
    have f1 := rises_ne ha
    have f2 := rises_ne hb
    rw [prs_eq r s (by simpa using h) (by simpa using h'), List.mem_cons, i]
    unfold InP
    constructor
    · rintro (rfl | ⟨h1, h2, h3⟩ | ⟨h1, h2, h3⟩ | ⟨h1, h2, h3⟩)
      · exact .inl ⟨List.mem_cons_self, List.mem_cons_self, hk⟩
      · exact .inl ⟨List.mem_cons_of_mem _ h1, List.mem_cons_of_mem _ h2, h3⟩
      · refine .inr (.inl ⟨List.mem_cons_of_mem _ h1, h2, fun z hz => ?_⟩)
        rcases List.mem_cons.1 hz with rfl | hz
        · exact fun e => f1 _ h1 (e.symm.trans hk.symm)
        · exact h3 z hz
      · refine .inr (.inr ⟨h1, List.mem_cons_of_mem _ h2, fun z hz => ?_⟩)
        rcases List.mem_cons.1 hz with rfl | hz
        · exact fun e => f2 _ h2 (e.symm.trans hk)
        · exact h3 z hz
    · rintro (⟨h1, h2, h3⟩ | ⟨h1, h2, h3⟩ | ⟨h1, h2, h3⟩)
      · rcases List.mem_cons.1 h1 with e | h1 <;> rcases List.mem_cons.1 h2 with e2 | h2
        · exact .inl (Prod.ext e e2)
        · exact absurd (h3.symm.trans ((congrArg En.k e).trans hk)) (f2 _ h2)
        · exact absurd (h3.trans ((congrArg En.k e2).trans hk.symm)) (f1 _ h1)
        · exact .inr (.inl ⟨h1, h2, h3⟩)
      · rcases List.mem_cons.1 h1 with e | h1
        · exact absurd (hk.symm.trans (congrArg En.k e).symm) (h3 y List.mem_cons_self)
        · exact .inr (.inr (.inl ⟨h1, h2, fun z hz => h3 z (List.mem_cons_of_mem _ hz)⟩))
      · rcases List.mem_cons.1 h2 with e | h2
        · exact absurd (hk.trans (congrArg En.k e).symm) (h3 x List.mem_cons_self)
        · exact .inr (.inr (.inr ⟨h1, h2, fun z hz => h3 z (List.mem_cons_of_mem _ hz)⟩))
/-- The newest of both. -/
def mxL (a b : List En) : List En := (prs a b).map (fun p => En.best p.1 p.2)
/-- Two entries' versions differ. -/
def vNe (p : En × En) : Bool := !((p.1.c == p.2.c) && (p.1.n == p.2.n))
theorem best_pick (x y : En) : (En.best x y = y ∧ En.newer y x = true) ∨ (En.best x y = x ∧ En.newer y x = false) := by
  unfold En.best
  cases En.newer y x
  · exact .inr ⟨rfl, rfl⟩
  · exact .inl ⟨rfl, rfl⟩
theorem newer_z {x : En} (h : 1 ≤ x.c ∧ 0 ≤ x.n) : En.newer eZ x = false ∧ En.newer x eZ = true := by
  constructor
  · rw [newer_not]; simp [eZ]; omega
  · rw [newer_iff]; simp [eZ]; omega
theorem best_zr {x : En} (h : 1 ≤ x.c ∧ 0 ≤ x.n) : En.best x eZ = x := by unfold En.best; rw [(newer_z h).1]; rfl
theorem best_zl {x : En} (h : 1 ≤ x.c ∧ 0 ≤ x.n) : En.best eZ x = x := by unfold En.best; rw [(newer_z h).2]; rfl
theorem mem_mx {a b : List En} (ha : MapL a) (hb : MapL b) (x : En) : x ∈ mxL a b ↔ (x ∈ a ∧ ∀ y ∈ b, y.k = x.k → En.newer y x = false) ∨ (x ∈ b ∧ ∀ y ∈ a, y.k = x.k → En.newer x y = true) := by
  unfold mxL
  rw [List.mem_map]
  constructor
  · rintro ⟨⟨p, q⟩, hp, rfl⟩
    rw [mem_prs a b ha.rises hb.rises] at hp
    rcases hp with ⟨h1, h2, h3⟩ | ⟨h1, h2, h3⟩ | ⟨h1, h2, h3⟩ <;> dsimp only at h1 h2 h3 ⊢
    · rcases best_pick p q with ⟨e, g⟩ | ⟨e, g⟩ <;> rw [e]
      · refine .inr ⟨h2, fun y hy hk => ?_⟩
        rw [key_one ha.rises hy h1 (hk.trans h3.symm)]
        exact g
      · refine .inl ⟨h1, fun y hy hk => ?_⟩
        rw [key_one hb.rises hy h2 (hk.trans h3)]
        exact g
    · subst h2
      rw [best_zr (ha.pos h1)]
      exact .inl ⟨h1, fun y hy hk => absurd hk (h3 y hy)⟩
    · subst h1
      rw [best_zl (hb.pos h2)]
      exact .inr ⟨h2, fun y hy hk => absurd hk (h3 y hy)⟩
  · rintro (⟨h1, h2⟩ | ⟨h1, h2⟩)
    · by_cases hq : ∃ y ∈ b, y.k = x.k
      · obtain ⟨y, hy, hk⟩ := hq
        refine ⟨(x, y), (mem_prs a b ha.rises hb.rises _).2 (.inl ⟨h1, hy, hk.symm⟩), ?_⟩
        show En.best x y = x
        unfold En.best
        rw [h2 y hy hk]
        rfl
      · exact ⟨(x, eZ), (mem_prs a b ha.rises hb.rises _).2 (.inr (.inl ⟨h1, rfl, fun y hy hk => hq ⟨y, hy, hk⟩⟩)), best_zr (ha.pos h1)⟩
    · by_cases hq : ∃ y ∈ a, y.k = x.k
      · obtain ⟨y, hy, hk⟩ := hq
        refine ⟨(y, x), (mem_prs a b ha.rises hb.rises _).2 (.inl ⟨hy, h1, hk⟩), ?_⟩
        show En.best y x = x
        unfold En.best
        rw [h2 y hy hk]
        rfl
      · exact ⟨(eZ, x), (mem_prs a b ha.rises hb.rises _).2 (.inr (.inr ⟨rfl, h1, fun y hy hk => hq ⟨y, hy, hk⟩⟩)), best_zl (hb.pos h1)⟩
theorem mx_src {a b : List En} (ha : MapL a) (hb : MapL b) {x : En} (h : x ∈ mxL a b) : x ∈ a ∨ x ∈ b := by
  rcases (mem_mx ha hb x).1 h with h | h
  · exact .inl h.1
  · exact .inr h.1
theorem mapL_tail {x : En} {l : List En} (h : MapL (x :: l)) : MapL l := ⟨(rises_consE.1 h.rises).2, fun e he => h.chk e (List.mem_cons_of_mem _ he)⟩
theorem mx_rises (a b : List En) : MapL a → MapL b → RisesE (mxL a b) := by
  induction a, b using prs.induct with
  | case1 => intro _ _; unfold mxL; rw [prs_nil]; exact List.Pairwise.nil
  | case2 x r ih =>
    intro ha hb
    have i := ih (mapL_tail ha) hb
    have e : mxL (x :: r) [] = x :: mxL r [] := by unfold mxL; rw [prs_left, List.map_cons, best_zr (ha.pos List.mem_cons_self)]
    rw [e, rises_consE]
    refine ⟨fun y hy => ?_, i⟩
    rcases mx_src (mapL_tail ha) hb hy with h | h
    · exact (rises_consE.1 ha.rises).1 y h
    · simp at h
  | case3 y s ih =>
    intro ha hb
    have i := ih ha (mapL_tail hb)
    have e : mxL [] (y :: s) = y :: mxL [] s := by unfold mxL; rw [prs_right, List.map_cons, best_zl (hb.pos List.mem_cons_self)]
    rw [e, rises_consE]
    refine ⟨fun z hz => ?_, i⟩
    rcases mx_src ha (mapL_tail hb) hz with h | h
    · simp at h
    · exact (rises_consE.1 hb.rises).1 z h
  | case4 x r y s h ih =>
    intro ha hb
    have i := ih (mapL_tail ha) hb
    have e : mxL (x :: r) (y :: s) = x :: mxL r (y :: s) := by unfold mxL; rw [prs_lt r s h, List.map_cons, best_zr (ha.pos List.mem_cons_self)]
    rw [e, rises_consE]
    refine ⟨fun z hz => ?_, i⟩
    rcases mx_src (mapL_tail ha) hb hz with g | g
    · exact (rises_consE.1 ha.rises).1 z g
    · rcases List.mem_cons.1 g with rfl | g
      · exact h
      · exact kLt_trans h ((rises_consE.1 hb.rises).1 z g)
  | case5 x r y s h h' ih =>
    intro ha hb
    have i := ih ha (mapL_tail hb)
    have e : mxL (x :: r) (y :: s) = y :: mxL (x :: r) s := by unfold mxL; rw [prs_gt r s (by simpa using h) h', List.map_cons, best_zl (hb.pos List.mem_cons_self)]
    rw [e, rises_consE]
    refine ⟨fun z hz => ?_, i⟩
    rcases mx_src ha (mapL_tail hb) hz with g | g
    · rcases List.mem_cons.1 g with rfl | g
      · exact h'
      · exact kLt_trans h' ((rises_consE.1 ha.rises).1 z g)
    · exact (rises_consE.1 hb.rises).1 z g
  | case6 x r y s h h' ih =>
    intro ha hb
    have i := ih (mapL_tail ha) (mapL_tail hb)
    have hk : x.k = y.k := kLt_total (by simpa using h) (by simpa using h')
    have e : mxL (x :: r) (y :: s) = En.best x y :: mxL r s := by unfold mxL; rw [prs_eq r s (by simpa using h) (by simpa using h'), List.map_cons]
    have hb' : (En.best x y).k = x.k := by
      rcases best_pick x y with ⟨e, _⟩ | ⟨e, _⟩ <;> rw [e]
      exact hk.symm
    rw [e, rises_consE]
    refine ⟨fun z hz => ?_, i⟩
    rw [hb']
    rcases mx_src (mapL_tail ha) (mapL_tail hb) hz with g | g
    · exact (rises_consE.1 ha.rises).1 z g
    · rw [hk]; exact (rises_consE.1 hb.rises).1 z g
theorem mx_map {a b : List En} (ha : MapL a) (hb : MapL b) : MapL (mxL a b) :=
  ⟨mx_rises a b ha hb, fun e he => by rcases mx_src ha hb he with h | h; exact ha.chk e h; exact hb.chk e h⟩
end Go.Proofs.YtfkdhambbpkmpaaDoor
namespace Go.Proofs.YtfkdhambbpkmpaaDoor
open Go.RowKit
set_option linter.unusedVariables false
/-- An owned row's slice, in letters. -/
theorem own_slice {w : World} {B : Nat} {e : TypeId} {s : Nat} {v : Value} {n : Nat} {xs : List Value} (h : w.ownsRow B e s v n xs) : ∃ a c, v = .slice a n c ∧ n ≤ c ∧ c ≤ maxLen ∧ ((a = none ∧ n = 0 ∧ c = 0) ∨ ∃ g, a = some ⟨g, 0, none⟩ ∧ B ≤ g) := by
  rcases h.2 with ⟨rfl, rfl⟩ | ⟨g, cap, cur, rfl, hb, _, hn, hm, _⟩
  · exact ⟨none, 0, rfl, Nat.le_refl _, Nat.zero_le _, .inl ⟨rfl, rfl, rfl⟩⟩
  · exact ⟨_, cap, rfl, hn, hm, .inr ⟨g, rfl, hb⟩⟩
end Go.Proofs.YtfkdhambbpkmpaaDoor

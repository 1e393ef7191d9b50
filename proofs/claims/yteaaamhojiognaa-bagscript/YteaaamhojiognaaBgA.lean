/-
  Packets in memory: rows of them, their bytes; a bag in memory.
-/
import Derived.Test.YteaaamhojiognaaYMem
import Derived.Test.YteaaamhojiognaaYTrOrders
import Derived.OwnWalk
import Derived.Laws.OwnMore
import Derived.Laws.AppendOwnNone
import Derived.Maps.AppendAt
import Derived.Lib.AppendZeros
import Derived.Deep.CutBlock
import Derived.Deep.DeepCutAuto
namespace Go.Proofs.Yteaaamhojiognaa
open Go.RowKit
set_option linter.unusedVariables false

/-- A packet: its numbers, where its bytes lie, its bytes. -/
structure Pk where
  num : Int
  frm : Int
  dst : Int
  da : Option Addr
  dl : Nat
  dc : Nat
  L : List UInt8
/-- A packet, plain. -/
structure Pp where
  num : Int
  frm : Int
  dst : Int
  L : List UInt8
def Pk.pl (p : Pk) : Pp := ⟨p.num, p.frm, p.dst, p.L⟩
def Pk.v (p : Pk) : Value := .agg #[.int .i64 p.num, .int .i64 p.frm, .int .i64 p.dst, .slice p.da p.dl p.dc]
def pkVals (p : Pk) : List Value := [.int .i64 p.num, .int .i64 p.frm, .int .i64 p.dst, .slice p.da p.dl p.dc]
def pkCells : List Pk → List Value
  | [] => []
  | e :: r => pkVals e ++ pkCells r
theorem pkCells_length : ∀ l : List Pk, (pkCells l).length = l.length * 4
  | [] => rfl
  | e :: r => by simp only [pkCells, List.length_append, pkCells_length r, List.length_cons, pkVals]; simp; omega
theorem pkCells_append : ∀ l m : List Pk, pkCells (l ++ m) = pkCells l ++ pkCells m
  | [], _ => rfl
  | e :: r, m => by simp [pkCells, pkCells_append r m]
theorem pkCells_at : ∀ (l : List Pk) (i r : Nat) (e : Pk), l[i]? = some e → r < 4 → (pkCells l)[i * 4 + r]? = (pkVals e)[r]?
  | [], i, r, e, h, _ => by simp at h
  | x :: t, 0, r, e, h, hr => by
    simp at h; subst h
    simp only [pkCells]
    rw [List.getElem?_append_left (by simp [pkVals]; omega)]
    simp
  | x :: t, i + 1, r, e, h, hr => by
    simp only [pkCells]
    rw [List.getElem?_append_right (by simp [pkVals]; omega)]
    have := pkCells_at t i r e (by simpa using h) hr
    rw [← this]
    congr 1
    simp [pkVals]
    omega
theorem pkCells_one (l : List Pk) : ∀ u ∈ pkCells l, u.oneCell' = true := by
  induction l with
  | nil => intro u hu; simp [pkCells] at hu
  | cons e r ih =>
    intro u hu
    simp only [pkCells, List.mem_append] at hu
    rcases hu with hu | hu
    · simp [pkVals] at hu
      rcases hu with rfl | rfl | rfl | rfl <;> rfl
    · exact ih u hu
theorem pkCells_drop (l : List Pk) : ∀ k, (pkCells l).drop (k * 4) = pkCells (l.drop k) := by
  induction l with
  | nil => intro k; simp [pkCells]
  | cons e r ih =>
    intro k
    cases k with
    | zero => simp
    | succ k =>
      rw [List.drop_succ_cons, ← ih k]
      simp only [pkCells, pkVals]
      rw [show (k + 1) * 4 = k * 4 + 4 from by omega]
      simp
theorem pkCells_take (l : List Pk) (k : Nat) : ∀ (j : Nat) (u : Value), (pkCells (l.take k))[j]? = some u → (pkCells l)[j]? = some u := by
  intro j u h
  have e : pkCells l = pkCells (l.take k) ++ pkCells (l.drop k) := by rw [← pkCells_append, List.take_append_drop]
  rw [e, List.getElem?_append_left]
  · exact h
  · exact (List.getElem?_eq_some_iff.1 h).1
theorem infoPk : (Try.prog.info? 39).map (fun i => (i.zero, i.size, i.bytes)) = some (some (.agg #[.int .i64 0, .int .i64 0, .int .i64 0, .slice none 0 0]), 4, 48) := by kernel_rfl

theorem own_low {w : World} {base base' : Nat} {e : TypeId} {size : Nat} {v : Value} {n : Nat} {xs : List Value} (h : w.ownsRow base e size v n xs) (hb : base' ≤ base) : w.ownsRow base' e size v n xs := by
  refine ⟨h.1, ?_⟩
  rcases h.2 with h0 | ⟨g, cap, cur, h1, h2, h3⟩
  · exact .inl h0
  · exact .inr ⟨g, cap, cur, h1, Nat.le_trans hb h2, h3⟩
theorem own_on {w w' : World} {base : Nat} {e : TypeId} {size : Nat} {v : Value} {n : Nat} {xs : List Value} (h : w.ownsRow base e size v n xs) (hb : Below w.heap.size w w') : w'.ownsRow base e size v n xs := by
  refine ⟨h.1, ?_⟩
  rcases h.2 with h0 | ⟨g, cap, cur, h1, h2, h3, h4⟩
  · exact .inl h0
  · exact .inr ⟨g, cap, cur, h1, h2, blk_on h3 hb, h4⟩
theorem own_slice {w : World} {B : Nat} {e : TypeId} {s : Nat} {v : Value} {n : Nat} {xs : List Value} (h : w.ownsRow B e s v n xs) : ∃ a c, v = .slice a n c ∧ n ≤ c ∧ c ≤ maxLen ∧ ((a = none ∧ n = 0 ∧ c = 0) ∨ ∃ g, a = some ⟨g, 0, none⟩ ∧ B ≤ g ∧ g < w.heap.size) := by
  rcases h.2 with ⟨rfl, rfl⟩ | ⟨g, cap, cur, rfl, hb, hg, hn, hm, _⟩
  · exact ⟨none, 0, rfl, Nat.le_refl _, Nat.zero_le _, .inl ⟨rfl, rfl, rfl⟩⟩
  · exact ⟨_, cap, rfl, hn, hm, .inr ⟨g, rfl, hb, lt_of_blk hg⟩⟩
/-- A row's block has its type. -/
theorem own_typed {w : World} {B : Nat} {e t : TypeId} {s n k : Nat} {v : Value} {xs : List Value} {cs : Array Value} (h : w.ownsRow B e s v n xs) (hk : w.heap[k]? = some (.cells cs t (0, 0))) (ht : e ≠ t) : ¬ v.ownBlock = some k := by
  intro h1
  rcases h.2 with ⟨h2, _⟩ | ⟨g, cap, cur, h2, h3, h4, h5⟩
  · rw [h2] at h1; cases h1
  · rw [h2] at h1
    have e1 : g = k := by simpa [Value.ownBlock] using h1
    subst e1
    rw [hk] at h4
    injection h4 with h4
    injection h4 with _ h4 _
    exact ht h4.symm
/-- Rows of unlike types lie apart. -/
theorem own_apart {w : World} {B B' : Nat} {e e' : TypeId} {s s' n n' k : Nat} {v v' : Value} {xs ys : List Value} (h : w.ownsRow B e s v n xs) (h' : w.ownsRow B' e' s' v' n' ys) (ht : e ≠ e') (hk : v'.ownBlock = some k) : ¬ v.ownBlock = some k := by
  rcases h'.2 with ⟨h2, _⟩ | ⟨g, cap, cur, h2, h3, h4, h5⟩
  · rw [h2] at hk; cases hk
  · rw [h2] at hk
    have e1 : g = k := by simpa [Value.ownBlock] using hk
    subst e1
    exact own_typed h h4 ht
theorem own_cells {w : World} {B : Nat} {e : TypeId} {s n c : Nat} {a : Option Addr} {xs : List Value} (h : w.ownsRow B e s (.slice a n c) n xs) (hn : 0 < n) : ∃ g, a = some ⟨g, 0, none⟩ ∧ B ≤ g ∧ g < w.heap.size ∧ ∀ j u, xs[j]? = some u → w.cell? ⟨g, j, none⟩ = some u := by
  obtain ⟨a', c', e1, h1, h2, ⟨h3, h4, h5⟩ | ⟨g, rfl, hb, hl⟩⟩ := own_slice h
  · omega
  · injection e1 with e1 e2 e3
    subst e1 e3
    refine ⟨g, rfl, hb, hl, fun j u hj => ?_⟩
    have hjl : j < xs.length := (List.getElem?_eq_some_iff.1 hj).1
    rw [h.cellAt j (by rw [h.1] at hjl; exact hjl)]
    exact hj

/-- Bytes that can be read: nil, or cells that are there. -/
def ByIn (w : World) (a : Option Addr) (len cap : Nat) (L : List UInt8) : Prop :=
  L.length = len ∧ len ≤ cap ∧ cap ≤ maxLen ∧ ((a = none ∧ len = 0 ∧ cap = 0) ∨ ∃ x, a = some x ∧ ∀ j u, (Lib.byteCells L)[j]? = some u → w.cell? (x.add j) = some u)
theorem ByIn.on {w w' : World} {a : Option Addr} {len cap : Nat} {L : List UInt8} (h : ByIn w a len cap L) (bel : Below w.heap.size w w') : ByIn w' a len cap L := by
  obtain ⟨h1, h2, h3, h4⟩ := h
  refine ⟨h1, h2, h3, ?_⟩
  rcases h4 with h | ⟨x, hx, hc⟩
  · exact .inl h
  · refine .inr ⟨x, hx, fun j u hj => ?_⟩
    have hcell := hc j u hj
    rw [← hcell]
    exact bel.cell (World.block_lt_of_cell? w _ hcell)
/-- A packet's bytes, in a row of their own. -/
def Dat (B : Nat) (w : World) (p : Pk) : Prop := w.ownsRow B 5 1 (.slice p.da p.dl p.dc) p.dl (Lib.byteCells p.L) ∧ p.dl ≤ 65536
theorem Dat.len {B : Nat} {w : World} {p : Pk} (h : Dat B w p) : p.L.length = p.dl := by
  have := h.1.1
  rw [Lib.byteCells_length] at this
  omega
theorem Dat.on {B : Nat} {w w' : World} {p : Pk} (h : Dat B w p) (b : Below w.heap.size w w') : Dat B w' p := ⟨own_on h.1 b, h.2⟩
theorem Dat.low {B B' : Nat} {w : World} {p : Pk} (h : Dat B w p) (hb : B' ≤ B) : Dat B' w p := ⟨own_low h.1 hb, h.2⟩
theorem Dat.keep {B : Nat} {S : Nat → Prop} {w w' : World} {p : Pk} (h : Dat B w p) (k : Keeps S w w') (hS : ∀ j, (Value.slice p.da p.dl p.dc).ownBlock = some j → ¬ S j) : Dat B w' p := ⟨ownsRow_keep h.1 k hS, h.2⟩
theorem Dat.byIn {B : Nat} {w : World} {p : Pk} (h : Dat B w p) : ByIn w p.da p.dl p.dc p.L := by
  have hl := h.len
  rcases h.1.2 with ⟨h1, h2⟩ | ⟨g, cap, cur, h1, h2, h3, h4, h5, h6⟩
  · injection h1 with e1 e2 e3
    exact ⟨hl, by omega, by unfold maxLen; omega, .inl ⟨e1, e2, e3⟩⟩
  · injection h1 with e1 e2 e3
    refine ⟨hl, by omega, by omega, .inr ⟨_, e1, fun j u hj => ?_⟩⟩
    have hjl : j < p.L.length := by
      have := (List.getElem?_eq_some_iff.1 hj).1
      rw [Lib.byteCells_length] at this
      exact this
    have h9 := h.1
    rw [e1] at h9
    rw [Addr.add_lit, Nat.zero_add, h9.cellAt j (by omega)]
    exact hj

/-- A list of packets that can be read. -/
def PkIn (w : World) (a : Option Addr) (n cap : Nat) (l : List Pk) : Prop :=
  l.length = n ∧ n ≤ cap ∧ cap ≤ maxLen ∧ ((a = none ∧ n = 0 ∧ cap = 0) ∨ ∃ b o, a = some ⟨b, o, none⟩ ∧ b < w.heap.size ∧ ∀ j u, (pkCells l)[j]? = some u → w.cell? ⟨b, o + j, none⟩ = some u)
theorem PkIn.on {w w' : World} {a : Option Addr} {n cap : Nat} {l : List Pk} (h : PkIn w a n cap l) (bel : Below w.heap.size w w') : PkIn w' a n cap l := by
  obtain ⟨h1, h2, h3, h4⟩ := h
  refine ⟨h1, h2, h3, ?_⟩
  rcases h4 with h | ⟨b, o, hx, hb, hc⟩
  · exact .inl h
  · refine .inr ⟨b, o, hx, by have := bel.size; omega, fun j u hj => ?_⟩
    have hcell := hc j u hj
    rw [← hcell]
    exact bel.cell (World.block_lt_of_cell? w _ hcell)
theorem PkIn.at {w : World} {b o n cap : Nat} {l : List Pk} (h : PkIn w (some ⟨b, o, none⟩) n cap l) {i : Nat} {p : Pk} (hi : l[i]? = some p) :
    w.cell? ⟨b, o + i * 4, none⟩ = some (.int .i64 p.num) ∧ w.cell? ⟨b, o + i * 4 + 1, none⟩ = some (.int .i64 p.frm) ∧ w.cell? ⟨b, o + i * 4 + 2, none⟩ = some (.int .i64 p.dst) ∧ w.cell? ⟨b, o + i * 4 + 3, none⟩ = some (.slice p.da p.dl p.dc) := by
  obtain ⟨h1, h2, h3, ⟨h4, -⟩ | ⟨b', o', hx, hb, hc⟩⟩ := h
  · cases h4
  · injection hx with hx
    injection hx with e1 e2
    subst e1 e2
    have c : ∀ r u, r < 4 → (pkVals p)[r]? = some u → w.cell? ⟨b, o + (i * 4 + r), none⟩ = some u := fun r u hr hu => hc _ _ (by rw [pkCells_at l i r p hi hr]; exact hu)
    exact ⟨by simpa using c 0 _ (by omega) rfl, by simpa [Nat.add_assoc] using c 1 _ (by omega) rfl, by simpa [Nat.add_assoc] using c 2 _ (by omega) rfl, by simpa [Nat.add_assoc] using c 3 _ (by omega) rfl⟩
theorem PkIn.of_own {w : World} {B n c : Nat} {a : Option Addr} {l : List Pk} (h : w.ownsRow B 39 4 (.slice a n c) n (pkCells l)) : PkIn w a n c l := by
  have hl : l.length = n := by have := h.1; rw [pkCells_length] at this; omega
  obtain ⟨a', c', e1, h1, h2, ⟨h3, h4, h5⟩ | ⟨g, rfl, hb, hg⟩⟩ := own_slice h
  · injection e1 with e1 e2 e3
    subst e1 e3
    exact ⟨hl, h1, h2, .inl ⟨h3, h4, h5⟩⟩
  · injection e1 with e1 e2 e3
    subst e1 e3
    refine ⟨hl, h1, h2, .inr ⟨g, 0, rfl, hg, fun j u hj => ?_⟩⟩
    have hjl : j < (pkCells l).length := (List.getElem?_eq_some_iff.1 hj).1
    rw [Nat.zero_add, h.cellAt j (by rw [h.1] at hjl; exact hjl)]
    exact hj

/-- Packets appended to an owned row, as one operation. -/
theorem op_append_pk {w : World} {o : Oper} {act : Act} {K : Act → World → Prop} {Q : Exit → Act → World → Prop} (s x : Operand)
    (ho : o.op = .call { callee := .builtin .append, args := #[s, x], argTypes := #[48, 48] })
    (B n m : Nat) (v : Value) (l r : List Pk) (hs : act.eval s = v) (hown : w.ownsRow B 39 4 v n (pkCells l)) (y : Addr) (c : Nat) (hx : act.eval x = .slice (some y) m c) (hm : r.length = m)
    (hc : ∀ (j : Nat) (u : Value), (pkCells r)[j]? = some u → w.cell? (y.add j) = some u) (hlen : (n + m) * 48 ≤ 140737488351232) (hB : B ≤ w.heap.size)
    (h : ∀ v' w', w'.ownsRow B 39 4 v' (n + m) (pkCells (l ++ r)) → w.grownBy w' v.ownBlock → (v'.ownBlock = v.ownBlock ∨ v'.ownBlock = some w.heap.size) → K (act.put o.dst v') w') : o.wp Try.prog act w K Q := by
  obtain ⟨i0, hi, hz0, hz1, hz2⟩ := info_parts infoPk
  obtain ⟨v', w', hr, h2, h3, h4, h5⟩ := run_append_own_at (P := Try.prog) w B 48 o.type 39 i0 _ 4 48 Try.underlying48 hi hz0 hz1 hz2 rfl (by decide) v n (pkCells l) hown y m c (pkCells r) (by rw [pkCells_length, hm]) hc (pkCells_one _) (by unfold maxLen; omega) (by omega) hB
  unfold Oper.wp execOp
  simp only [ho, resolve, invoke, builtin, Sem.run_bind, Sem.run_pure, Result.andThen_ok, List.map_toArray, List.map_cons, List.map_nil, hs, hx, hr]
  rw [← pkCells_append] at h2
  exact h v' w' h2 h3 h5
/-- A list of packets, nil or not, appended to an owned row. -/
theorem op_append_pks {w : World} {o : Oper} {act : Act} {K : Act → World → Prop} {Q : Exit → Act → World → Prop} (s x : Operand)
    (ho : o.op = .call { callee := .builtin .append, args := #[s, x], argTypes := #[48, 48] })
    (B n m : Nat) (v : Value) (l r : List Pk) (hs : act.eval s = v) (hown : w.ownsRow B 39 4 v n (pkCells l)) (a : Option Addr) (c : Nat) (hx : act.eval x = .slice a m c) (hr : PkIn w a m c r) (hlen : (n + m) * 48 ≤ 140737488351232) (hB : B ≤ w.heap.size)
    (h : ∀ v' w', w'.ownsRow B 39 4 v' (n + m) (pkCells (l ++ r)) → w.grownBy w' v.ownBlock → (v'.ownBlock = v.ownBlock ∨ v'.ownBlock = some w.heap.size) → K (act.put o.dst v') w') : o.wp Try.prog act w K Q := by
  obtain ⟨h1, h2, h3, ⟨rfl, rfl, rfl⟩ | ⟨b, off, rfl, hb, hc⟩⟩ := hr
  · obtain ⟨i0, hi, hz0, hz1, hz2⟩ := info_parts infoPk
    obtain rfl : r = [] := List.eq_nil_of_length_eq_zero h1
    have hrun := run_append_owned_none (P := Try.prog) (w := w) B 48 o.type 39 i0 4 Try.underlying48 hi _ _ _ hown
    unfold Oper.wp
    simp [execOp, ho, resolve, invoke, builtin, hs, hx, hrun, Result.andThen]
    exact h v w (by rw [List.append_nil]; exact hown) (World.grownBy.refl _ _) (.inl rfl)
  · exact op_append_pk s x ho B n m v l r hs hown ⟨b, off, none⟩ c hx h1 (fun j u hj => by rw [Addr.add_lit]; exact hc j u hj) hlen hB h
end Go.Proofs.Yteaaamhojiognaa

/-
  Tallies: their three cells, what == says of two, and of sums within them.
  Memory of a store's tree: a meter that counts, tallies of three cells, entries of five.
  Trees in memory (E): nodes and what they hold, rows and levels.
  down (E): the way to a key.
-/
import Derived.Test.YtlgcdcjhflihiaaDoorBstorefills2
import Derived.Deep.LoopGhost
import Derived.Deep.AppendLies
import Derived.WalkMore
namespace Go.Proofs.YtlgcdcjhflihiaaDoor
open Go.RowKit
set_option linter.unusedVariables false
/-- The three cells of a tally's block. -/
theorem tri {w : World} {i : Nat} {a b c : Value} {T : TypeId} (h : w.heap[i]? = some (.cells #[a, b, c] T (0, 0))) :
    w.cell? ⟨i, 0, none⟩ = some a ∧ w.cell? ⟨i, 1, none⟩ = some b ∧ w.cell? ⟨i, 2, none⟩ = some c ∧ w.frozen? ⟨i, 0, none⟩ = false ∧ w.frozen? ⟨i, 1, none⟩ = false ∧ w.frozen? ⟨i, 2, none⟩ = false :=
  ⟨by simp [World.cell?, h], by simp [World.cell?, h], by simp [World.cell?, h], frozen_of_row w i 0 _ _ h, frozen_of_row w i 1 _ _ h, frozen_of_row w i 2 _ _ h⟩

/-- A store into another block. -/
theorem cell_apart {X : World} {i k : Nat} {p : Addr} {u v : Value} (h : X.cell? p = some v) (hne : p.block ≠ i) : (X.setCell ⟨i, k, none⟩ u).cell? p = some v :=
  (World.cell?_setCell_other _ _ _ _ (fun e => hne (by rw [← e]))).trans h

theorem sum_in9 (a b c d : Int) (w : World) : (Op.equalIn 9999 62 (.agg #[.int .u64 a, .int .u64 b]) (.agg #[.int .u64 c, .int .u64 d])).run Tryd.prog w = .ok (a == c && b == d) w := by
  have u3 := Tryd.underlying60
  have a3 := Tryd.isAgg60
  have z3 := Tryd.sizeOf60
  rw [show (9999 : Nat) = 9998 + 1 from rfl, Op.equalIn]
  simp only [Sem.run_bind, run_underlying Tryd.underlying62, Result.andThen_ok]
  simp only [Std.Legacy.Range.forIn_eq_forIn_range', Std.Legacy.Range.size, Nat.sub_zero, Nat.add_sub_cancel, Nat.div_one, List.range'_succ, List.range'_zero, List.forIn_cons, List.forIn_nil]
  go_simp
  by_cases h1 : a = c <;> by_cases h2 : b = d <;> simp [h1, h2]

theorem tal_in (n a b m c d : Int) (w : World) : (Op.equalIn 10000 64 (.agg #[.int .i64 n, .int .u64 a, .int .u64 b]) (.agg #[.int .i64 m, .int .u64 c, .int .u64 d])).run Tryd.prog w = .ok (n == m && (a == c && b == d)) w := by
  have e := sum_in9 a b c d w
  rw [show (10000 : Nat) = 9999 + 1 from rfl]
  go_simp
  by_cases h1 : n = m <;> by_cases h2 : a = c <;> by_cases h3 : b = d <;> simp [h1, h2, h3]

theorem tal_run (n a b m c d : Int) (w : World) : (binOp .eql 64 (.agg #[.int .i64 n, .int .u64 a, .int .u64 b]) (.agg #[.int .i64 m, .int .u64 c, .int .u64 d])).run Tryd.prog w = .ok (.bool (n == m && (a == c && b == d))) w := by
  rw [run_eql_struct, tal_in]; rfl

theorem tal_ne_run (n a b m c d : Int) (w : World) : (binOp .neq 64 (.agg #[.int .i64 n, .int .u64 a, .int .u64 b]) (.agg #[.int .i64 m, .int .u64 c, .int .u64 d])).run Tryd.prog w = .ok (.bool (!(n == m && (a == c && b == d)))) w := by
  rw [run_neq_struct, tal_in]; rfl

theorem tal_same (n a b : Int) (w : World) : (binOp .eql 64 (.agg #[.int .i64 n, .int .u64 a, .int .u64 b]) (.agg #[.int .i64 n, .int .u64 a, .int .u64 b])).run Tryd.prog w = .ok (.bool true) w := by
  rw [tal_run]; simp

theorem tal_ne_same (n a b : Int) (w : World) : (binOp .neq 64 (.agg #[.int .i64 n, .int .u64 a, .int .u64 b]) (.agg #[.int .i64 n, .int .u64 a, .int .u64 b])).run Tryd.prog w = .ok (.bool false) w := by
  rw [tal_ne_run]; simp

end Go.Proofs.YtlgcdcjhflihiaaDoor
namespace Go.Proofs.YtlgcdcjhflihiaaDoor
open Go.RowKit
set_option linter.unusedVariables false

/-- How often a join was called: the meter in the block c says so. -/
def CntE (c : Option Nat) (n : Nat) (w : World) : Prop := ∀ b : Nat, c = some b → w.heap[b]? = some (.cells #[.int .i64 (IntKind.i64.wrap (n : Int))] 149 (0, 0))

theorem CntE.drew {c : Option Nat} {n : Nat} {w : World} (h : CntE c n w) : CntE c n w.drew := h
theorem CntE.alloc {c : Option Nat} {n : Nat} {w : World} (h : CntE c n w) (o : Obj) : CntE c n (w.alloc o) := fun b e => blk_on (h b e) (bnew _ _)
theorem CntE.keep {S : Nat → Prop} {c : Option Nat} {n : Nat} {w w' : World} (h : CntE c n w) (k : Keeps S w w') (hS : ∀ b, c = some b → ¬ S b) : CntE c n w' := fun b e => blk_keep (h b e) k (hS b e)
theorem CntE.below {c : Option Nat} {n : Nat} {w w' : World} (h : CntE c n w) (k : Below w.heap.size w w') : CntE c n w' := fun b e => blk_on (h b e) k
theorem CntE.apart {c : Option Nat} {n : Nat} {w : World} (h : CntE c n w) {i : Nat} {cs : Array Value} {T : TypeId} (hi : w.heap[i]? = some (.cells cs T (0, 0))) (hT : T ≠ 149) : ¬ OnC c i := fun e => by
  have := h i e
  rw [hi] at this
  injection this with this
  injection this with _ e2
  exact hT e2
theorem CntE.setCell {c : Option Nat} {n : Nat} {w : World} (h : CntE c n w) {p : Addr} (u : Value) (hp : ¬ OnC c p.block) : CntE c n (w.setCell p u) := fun b e => by
  rw [heap_setCell_other]
  · exact h b e
  · intro e2; exact hp (by show c = some p.block; rw [e, e2])
theorem CntE.lt {c : Option Nat} {n : Nat} {w : World} (h : CntE c n w) {i : Nat} (hi : w.heap.size ≤ i) : ¬ OnC c i := fun e => by
  have := lt_of_blk (h i e)
  omega
theorem Stay.onE {T : TypeId} {a b d : World} {c : Option Nat} {n : Nat} (h : Stay T a b) (hc : CntE c n b) (k : Keeps (OnC c) b d) (hT : T ≠ 149) : Stay T a d := h.keeps k (fun _ _ e => hc.apart e hT)

/-- A tally. -/
structure Tl where
  N : Int64
  A : UInt64
  B : UInt64

def Tl.n (t : Tl) : Int := t.N.toInt
def Tl.a (t : Tl) : Int := (t.A.toNat : Int)
def Tl.b (t : Tl) : Int := (t.B.toNat : Int)
def tZero : Tl := ⟨0, 0, 0⟩
def tJoin (f g : Tl) : Tl := ⟨f.N + g.N, f.A + g.A, f.B + g.B⟩
/-- What a tally takes beside its row: nothing that is counted. -/
def tSz (_ : Tl) : Nat := 0
theorem tSz_le (a b : Tl) : tSz (tJoin a b) ≤ tSz a + tSz b := Nat.le_refl _
theorem tZero_n : tZero.n = 0 := rfl
theorem tZero_a : tZero.a = 0 := rfl
theorem tZero_b : tZero.b = 0 := rfl
theorem tJoin_n (f g : Tl) : IntKind.i64.wrap (f.n + g.n) = (tJoin f g).n := by
  show _ = (f.N + g.N).toInt
  rw [Int64.toInt_add, IntKind.wrap_i64, Int.bmod_def]
  unfold Tl.n
  split <;> omega
theorem tJoin_a (f g : Tl) : IntKind.u64.wrap (f.a + g.a) = (tJoin f g).a := u64_add _ _
theorem tJoin_b (f g : Tl) : IntKind.u64.wrap (f.b + g.b) = (tJoin f g).b := u64_add _ _
theorem tJoin_assoc (a b c : Tl) : tJoin (tJoin a b) c = tJoin a (tJoin b c) := by
  simp only [tJoin, Tl.mk.injEq]
  exact ⟨Int64.add_assoc _ _ _, UInt64.add_assoc _ _ _, UInt64.add_assoc _ _ _⟩

/-- An entry that is none. -/
def eNone : En := ⟨⟨#[]⟩, 0, 0, ⟨#[]⟩, false⟩

/-- The five cells of an entry's block. -/
theorem penta {w : World} {i : Nat} {a b c d e : Value} {T : TypeId} (h : w.heap[i]? = some (.cells #[a, b, c, d, e] T (0, 0))) :
    w.cell? ⟨i, 0, none⟩ = some a ∧ w.cell? ⟨i, 1, none⟩ = some b ∧ w.cell? ⟨i, 2, none⟩ = some c ∧ w.cell? ⟨i, 3, none⟩ = some d ∧ w.cell? ⟨i, 4, none⟩ = some e ∧ w.frozen? ⟨i, 0, none⟩ = false ∧ w.frozen? ⟨i, 1, none⟩ = false ∧ w.frozen? ⟨i, 2, none⟩ = false ∧ w.frozen? ⟨i, 3, none⟩ = false ∧ w.frozen? ⟨i, 4, none⟩ = false :=
  ⟨by simp [World.cell?, h], by simp [World.cell?, h], by simp [World.cell?, h], by simp [World.cell?, h], by simp [World.cell?, h], frozen_of_row w i 0 _ _ h, frozen_of_row w i 1 _ _ h, frozen_of_row w i 2 _ _ h, frozen_of_row w i 3 _ _ h, frozen_of_row w i 4 _ _ h⟩

/-- Three cells of a block set. -/
def set3 (W : World) (g : Nat) (y : Tl) : World := ((W.setCell ⟨g, 0, none⟩ (.int .i64 y.n)).setCell ⟨g, 1, none⟩ (.int .u64 y.a)).setCell ⟨g, 2, none⟩ (.int .u64 y.b)

theorem set3_same {W : World} {g : Nat} {x0 x1 x2 : Value} (h : W.heap[g]? = some (.cells #[x0, x1, x2] 64 (0, 0))) (y : Tl) : (set3 W g y).heap[g]? = some (.cells #[.int .i64 y.n, .int .u64 y.a, .int .u64 y.b] 64 (0, 0)) := by
  have h1 := heap_setCell_same W g 0 _ _ (.int .i64 y.n) h
  have h2 := heap_setCell_same _ g 1 _ _ (.int .u64 y.a) h1
  exact heap_setCell_same _ g 2 _ _ (.int .u64 y.b) h2
theorem set3_other (W : World) (g k : Nat) (y : Tl) (h : k ≠ g) : (set3 W g y).heap[k]? = W.heap[k]? := by
  unfold set3
  rw [heap_setCell_other _ _ _ _ h, heap_setCell_other _ _ _ _ h, heap_setCell_other _ _ _ _ h]
theorem set3_cell {W : World} {g : Nat} {p : Addr} {v : Value} (y : Tl) (h : W.cell? p = some v) (hne : p.block ≠ g) : (set3 W g y).cell? p = some v := by
  unfold set3
  rw [World.cell?_setCell_other _ _ _ _ (fun e => hne (by rw [← e])), World.cell?_setCell_other _ _ _ _ (fun e => hne (by rw [← e])), World.cell?_setCell_other _ _ _ _ (fun e => hne (by rw [← e]))]
  exact h
theorem Keeps.set3 {S : Nat → Prop} {a w : World} (h : Keeps S a w) {g : Nat} (hg : g < a.heap.size → S g) (y : Tl) : Keeps S a (set3 w g y) :=
  ((h.setCell (p := ⟨g, 0, none⟩) hg _).setCell (p := ⟨g, 1, none⟩) hg _).setCell (p := ⟨g, 2, none⟩) hg _
theorem CntE.set3 {c : Option Nat} {n : Nat} {w : World} (h : CntE c n w) {g : Nat} (hg : ¬ OnC c g) (y : Tl) : CntE c n (set3 w g y) :=
  ((h.setCell (p := ⟨g, 0, none⟩) _ hg).setCell (p := ⟨g, 1, none⟩) _ hg).setCell (p := ⟨g, 2, none⟩) _ hg
theorem Stay.set3 {T : TypeId} {a b : World} (h : Stay T a b) {g : Nat} {x0 x1 x2 : Value} (hg : b.heap[g]? = some (.cells #[x0, x1, x2] 64 (0, 0))) (hT : T ≠ 64) (y : Tl) : Stay T a (set3 b g y) := fun i cs e => by
  have e1 := h i cs e
  rw [set3_other]
  · exact e1
  · rintro rfl; rw [hg] at e1; simp at e1; exact hT e1.2.symm

end Go.Proofs.YtlgcdcjhflihiaaDoor
namespace Go.Proofs.YtlgcdcjhflihiaaDoor
open Go.RowKit
set_option linter.unusedVariables false

/-- p points to the tree t. -/
def IsTE (w : World) : Option Addr → Tr En Tl → Prop
  | p, .nil => p = none
  | p, .node l k v s r => ∃ b lp rp, p = some ⟨b, 0, none⟩ ∧ w.heap[b]? = some (.cells #[.string k, .string v.k, .int .i64 v.c, .int .i64 v.n, .string v.v, .bool v.d, .int .i64 s.n, .int .u64 s.a, .int .u64 s.b, .pointer lp, .pointer rp, .int .i64 ((Tr.node l k v s r).cnt : Int), .int .i64 ((Tr.node l k v s r).ht : Int), .int .i64 ((Tr.node l k v s r).sum tJoin tZero).n, .int .u64 ((Tr.node l k v s r).sum tJoin tZero).a, .int .u64 ((Tr.node l k v s r).sum tJoin tZero).b] 120 (0, 0)) ∧ IsTE w lp l ∧ IsTE w rp r

theorem IsTE.stay {w w' : World} (h : Stay 120 w w') : ∀ (t : Tr En Tl) (p : Option Addr), IsTE w p t → IsTE w' p t
  | .nil, _, e => e
  | .node l k v s r, _, ⟨b, lp, rp, e, hb, hl, hr⟩ => ⟨b, lp, rp, e, h _ _ hb, IsTE.stay h l lp hl, IsTE.stay h r rp hr⟩

theorem IsTE.on {w w' : World} {p : Option Addr} {t : Tr En Tl} (i : IsTE w p t) (h : Stay 120 w w') : IsTE w' p t := IsTE.stay h t p i

theorem IsTE.isNil {w : World} {t : Tr En Tl} {p : Option Addr} (h : IsTE w p t) : t.isNil = p.isNone := by
  cases t with
  | nil => rw [show p = none from h]; rfl
  | node l k v s r => obtain ⟨b, lp, rp, rfl, _⟩ := h; rfl

theorem nodeE {w : World} {b : Nat} {k : ByteArray} {v : En} {s : Tl} {lp rp : Option Addr} {c h : Int} {q : Tl} (hb : w.heap[b]? = some (.cells #[.string k, .string v.k, .int .i64 v.c, .int .i64 v.n, .string v.v, .bool v.d, .int .i64 s.n, .int .u64 s.a, .int .u64 s.b, .pointer lp, .pointer rp, .int .i64 c, .int .i64 h, .int .i64 q.n, .int .u64 q.a, .int .u64 q.b] 120 (0, 0))) :
    w.cell? ⟨b, 0, none⟩ = some (.string k) ∧ w.cell? ⟨b, 1, none⟩ = some (.string v.k) ∧ w.cell? ⟨b, 2, none⟩ = some (.int .i64 v.c) ∧ w.cell? ⟨b, 3, none⟩ = some (.int .i64 v.n) ∧ w.cell? ⟨b, 4, none⟩ = some (.string v.v) ∧ w.cell? ⟨b, 5, none⟩ = some (.bool v.d) ∧ w.cell? ⟨b, 6, none⟩ = some (.int .i64 s.n) ∧ w.cell? ⟨b, 7, none⟩ = some (.int .u64 s.a) ∧ w.cell? ⟨b, 8, none⟩ = some (.int .u64 s.b) ∧ w.cell? ⟨b, 9, none⟩ = some (.pointer lp) ∧ w.cell? ⟨b, 10, none⟩ = some (.pointer rp) ∧ w.cell? ⟨b, 11, none⟩ = some (.int .i64 c) ∧ w.cell? ⟨b, 12, none⟩ = some (.int .i64 h) ∧ w.cell? ⟨b, 13, none⟩ = some (.int .i64 q.n) ∧ w.cell? ⟨b, 14, none⟩ = some (.int .u64 q.a) ∧ w.cell? ⟨b, 15, none⟩ = some (.int .u64 q.b) := by
  simp [World.cell?, hb]

theorem IsTE.two {w : World} {t : Tr En Tl} {p : Option Addr} (h : IsTE w p t) : (p = none ∧ t = .nil) ∨ ∃ b, p = some ⟨b, 0, none⟩ ∧ t.isNil = false := by
  cases t with
  | nil => exact .inl ⟨h, rfl⟩
  | node l k v s r => obtain ⟨b, lp, rp, rfl, _⟩ := h; exact .inr ⟨b, rfl, rfl⟩

theorem sumAtE {w : World} {b : Nat} {t : Tr En Tl} (h : IsTE w (some ⟨b, 0, none⟩) t) : w.cell? ⟨b, 13, none⟩ = some (.int .i64 (t.sum tJoin tZero).n) ∧ w.cell? ⟨b, 14, none⟩ = some (.int .u64 (t.sum tJoin tZero).a) ∧ w.cell? ⟨b, 15, none⟩ = some (.int .u64 (t.sum tJoin tZero).b) := by
  cases t with
  | nil => cases (show some _ = none from h)
  | node l k v s r =>
    obtain ⟨b', lp, rp, e, hb, _⟩ := h
    injection e with e
    injection e with e _ _
    subst e
    simp [World.cell?, hb]

theorem nodePlE {w : World} {b : Nat} {k : ByteArray} {v : En} {s : Tl} {lp rp : Option Addr} {c h : Int} {q : Tl} (hb : w.heap[b]? = some (.cells #[.string k, .string v.k, .int .i64 v.c, .int .i64 v.n, .string v.v, .bool v.d, .int .i64 s.n, .int .u64 s.a, .int .u64 s.b, .pointer lp, .pointer rp, .int .i64 c, .int .i64 h, .int .i64 q.n, .int .u64 q.a, .int .u64 q.b] 120 (0, 0))) : w.cell? ⟨b, 9, none⟩ = some (.pointer lp) := by simp [World.cell?, hb]
theorem nodePrE {w : World} {b : Nat} {k : ByteArray} {v : En} {s : Tl} {lp rp : Option Addr} {c h : Int} {q : Tl} (hb : w.heap[b]? = some (.cells #[.string k, .string v.k, .int .i64 v.c, .int .i64 v.n, .string v.v, .bool v.d, .int .i64 s.n, .int .u64 s.a, .int .u64 s.b, .pointer lp, .pointer rp, .int .i64 c, .int .i64 h, .int .i64 q.n, .int .u64 q.a, .int .u64 q.b] 120 (0, 0))) : w.cell? ⟨b, 10, none⟩ = some (.pointer rp) := by simp [World.cell?, hb]

/-- A tree's own block: it holds its join jv and its root. -/
def TObjE (w : World) (tb : Nat) (jv : Value) (root : Option Addr) : Prop := w.heap[tb]? = some (.cells #[.int .i64 0, .int .u64 0, .int .u64 0, jv, .pointer root] 111 (0, 0))

theorem TObjE.onC {w w' : World} {tb n : Nat} {jv : Value} {root : Option Addr} {c : Option Nat} (h : TObjE w tb jv root) (hc : CntE c n w) (k : Keeps (OnC c) w w') : TObjE w' tb jv root := blk_keep h k (hc.apart h (by decide))

theorem tobjE {w : World} {tb : Nat} {jv : Value} {root : Option Addr} (h : TObjE w tb jv root) :
    w.cell? ⟨tb, 0, none⟩ = some (.int .i64 0) ∧ w.cell? ⟨tb, 1, none⟩ = some (.int .u64 0) ∧ w.cell? ⟨tb, 2, none⟩ = some (.int .u64 0) ∧ w.cell? ⟨tb, 3, none⟩ = some (jv) ∧ w.cell? ⟨tb, 4, none⟩ = some (.pointer root) ∧ w.frozen? ⟨tb, 4, none⟩ = false := by
  unfold TObjE at h
  simp [World.cell?, World.frozen?, h]

set_option maxHeartbeats 1600000 in
theorem rowsE {w : World} {p : Option Addr} {t : Tr En Tl} (h : IsTE w p t) :
    Calls Tryd.prog 51 #[.pointer p] w fun e w' => e = .returned (.int .i64 (t.cnt : Int)) ∧ w' = w := by
  cases t with
  | nil =>
    obtain rfl : p = none := h
    go_enter Tryd.func51, Tryd.ntmps51
    go_wp2
    go_ret
    exact ⟨rfl, rfl⟩
  | node l k v s r =>
    obtain ⟨b, lp, rp, rfl, hb, _, _⟩ := h
    have hn := nodeE hb
    obtain ⟨-, -, -, -, -, -, -, -, -, -, -, h, -, -, -, -⟩ := hn
    clear hb
    generalize ((Tr.node l k v s r).cnt : Int) = c at *
    go_enter Tryd.func51, Tryd.ntmps51
    go_wp2
    go_ret
    exact ⟨rfl, rfl⟩

set_option maxHeartbeats 1600000 in
theorem levelsE {w : World} {p : Option Addr} {t : Tr En Tl} (h : IsTE w p t) :
    Calls Tryd.prog 75 #[.pointer p] w fun e w' => e = .returned (.int .i64 (t.ht : Int)) ∧ w' = w := by
  cases t with
  | nil =>
    obtain rfl : p = none := h
    go_enter Tryd.func75, Tryd.ntmps75
    go_wp2
    go_ret
    exact ⟨rfl, rfl⟩
  | node l k v s r =>
    obtain ⟨b, lp, rp, rfl, hb, _, _⟩ := h
    have hn := nodeE hb
    obtain ⟨-, -, -, -, -, -, -, -, -, -, -, -, h, -, -, -⟩ := hn
    clear hb
    generalize ((Tr.node l k v s r).ht : Int) = c at *
    go_enter Tryd.func75, Tryd.ntmps75
    go_wp2
    go_ret
    exact ⟨rfl, rfl⟩

end Go.Proofs.YtlgcdcjhflihiaaDoor
namespace Go.Proofs.YtlgcdcjhflihiaaDoor
open Go.RowKit
set_option linter.unusedVariables false

theorem infoPNE : (Tryd.prog.info? 109).map (fun i => (i.zero, i.size, i.bytes)) = some (some (.pointer none), 1, 8) := by kernel_rfl

/-- The pointers of a way. -/
def ptrsE (l : List (Option Addr × Tr En Tl)) : List Value := l.map (fun x => .pointer x.1)

/-- What the loop of down keeps: pre has been passed; T' is what the way goes on from; at most g rounds are to come. -/
def DRelE (w : World) (k : ByteArray) (T : Tr En Tl) (g : Nat) (above at_ lo : Value) (wr : World) : Prop :=
  ∃ (pre : List (Option Addr × Tr En Tl)) (p : Option Addr) (T' : Tr En Tl) (L b cap : Nat), above = .slice (some ⟨b, 0, none⟩) pre.length cap ∧ at_ = .pointer p ∧ lo = .int .i64 (L : Int) ∧
    IsTE w p T' ∧ T'.ht ≤ g ∧ wr.ownsRow w.heap.size 109 1 (.slice (some ⟨b, 0, none⟩) pre.length cap) pre.length (ptrsE pre) ∧ Below w.heap.size w wr ∧ (∀ x ∈ pre, IsTE w x.1 x.2) ∧
    Tr.path k T = pre.map (·.2) ++ Tr.path k T' ∧ Tr.found k T = Tr.found k T' ∧ Tr.lower k T = L + Tr.lower k T' ∧ pre.length + T'.ht ≤ T.ht ∧ L + T'.cnt ≤ T.cnt

theorem DRelE.mk0 {w w0 : World} {k : ByteArray} {T : Tr En Tl} {p : Option Addr} {cap b : Nat} (hT : IsTE w p T) (ho : w0.ownsRow w.heap.size 109 1 (.slice (some ⟨b, 0, none⟩) 0 cap) 0 []) (hb : Below w.heap.size w w0) :
    DRelE w k T T.ht (.slice (some ⟨b, 0, none⟩) 0 cap) (.pointer p) (.int .i64 0) w0 :=
  ⟨[], p, T, 0, b, cap, rfl, rfl, rfl, hT, Nat.le_refl _, ho, hb, (fun x hx => by cases hx), rfl, rfl, by omega, by simp, by omega⟩

/-- One pointer more. -/
theorem down_rowE {w wr w1 : World} {u : Value} {pre : List (Option Addr × Tr En Tl)} {b b1 cap1 : Nat} {o : Obj} {T' : Tr En Tl} (hb : Below w.heap.size w wr)
    (hown : wr.ownsRow w.heap.size 109 1 u pre.length (ptrsE pre)) (hgrow : (wr.alloc o).grownBy w1 u.ownBlock)
    (hown1 : w1.ownsRow w.heap.size 109 1 (.slice (some ⟨b1, 0, none⟩) (pre.length + 1) cap1) (pre.length + 1) (ptrsE pre ++ [.pointer (some ⟨b, 0, none⟩)])) :
    w1.ownsRow w.heap.size 109 1 (.slice (some ⟨b1, 0, none⟩) (pre ++ [((some ⟨b, 0, none⟩ : Option Addr), T')]).length cap1) (pre ++ [((some ⟨b, 0, none⟩ : Option Addr), T')]).length (ptrsE (pre ++ [((some ⟨b, 0, none⟩ : Option Addr), T')])) ∧ Below w.heap.size w w1 := by
  constructor
  · simpa [ptrsE] using hown1
  · exact (hb.alloc hb.size o).grown hgrow (by have := hb.size; simp; omega) (fun j hj => (hown.lt j hj).1)

/-- What down hands back. -/
def DownsE (w : World) (k : ByteArray) (T : Tr En Tl) (e : Ending) (w' : World) : Prop :=
  ∃ (pre : List (Option Addr × Tr En Tl)) (p : Option Addr) (b cap : Nat), e = .returned (.tuple #[.slice (some ⟨b, 0, none⟩) pre.length cap, .pointer p, .int .i64 (Tr.lower k T : Int)]) ∧
    IsTE w p (Tr.found k T) ∧ w'.ownsRow w.heap.size 109 1 (.slice (some ⟨b, 0, none⟩) pre.length cap) pre.length (ptrsE pre) ∧ Below w.heap.size w w' ∧ (∀ x ∈ pre, IsTE w x.1 x.2) ∧ pre.map (·.2) = Tr.path k T

set_option maxHeartbeats 3200000 in
set_option maxRecDepth 100000 in
theorem downE (k : ByteArray) {w : World} {tb : Nat} {jv : Value} {p0 : Option Addr} {T : Tr En Tl} (ht : TObjE w tb jv p0) (hT : IsTE w p0 T) (hh : T.ht ≤ 1000000) (hcn : T.cnt ≤ 4611686018427387904) :
    Calls Tryd.prog 54 #[.pointer (some ⟨tb, 0, none⟩), .string k] w (DownsE w k T) := by
  obtain ⟨i0, hi0, hz0, hz1, hz2⟩ := info_parts infoPNE
  have HI := aside hi0
  have HT := aside hT
  have t0 := tobjE ht
  obtain ⟨-, -, -, -, r0, -⟩ := t0
  have CL := aside (levelsE hT)
  obtain ⟨h, hh1⟩ : ∃ h : Int, (T.ht : Int) = h := ⟨_, rfl⟩
  rw [hh1] at CL
  have HH := aside hh1
  have HCN := aside hcn
  have HHT := aside hh
  have TL := aside (lt_of_blk ht)
  clear ht hT hh1 hcn hh
  go_enter Tryd.func54, Tryd.ntmps54
  go_wp2
  go_step3
  go_wp2_with fail
  refine CL.out.mono ?_
  rintro e w1 ⟨rfl, rfl⟩
  go_wp2_with (at_make; refine wpList_make_own _ rfl _ _ 114 rfl w1.heap.size 109 i0 (.pointer none) 1 Tryd.underlying114 hi0 hz0 hz1 _ _ _ T.ht rfl rfl HH.out.symm (by rw [hz2]; have := HHT.out; omega) (by have := HHT.out; unfold maxLen; omega) (Nat.le_refl _) ?_)
  intro w0 hown0 hgrow0
  have hb0 : Below w1.heap.size w1 w0 := (Below.refl _ w1).grown hgrow0 (Nat.le_refl _) (fun k e => by cases e)
  have R0 := aside (DRelE.mk0 (k := k) HT.out hown0 hb0)
  have r0' := (hb0.cell (p := ⟨tb, 4, none⟩) TL.out).trans r0
  clear hgrow0 hown0 hb0 r0
  go_wp2
  go_step3
  go_wp2
  clear r0'
  go_loopg [4, 5, 6] T.ht (fun g a at_ lo wr => DRelE w1 k T g a at_ lo wr)
  case atStart => exact R0.out
  case round =>
    obtain ⟨pre, p, T', L, b0, cap, rfl, rfl, rfl, hT', hg, ho, hb, hpre, e1, e2, e3, e4, e5⟩ := hrel
    have HO := aside ho
    have HB := aside hb
    have HP := aside hpre
    have E1 := aside e1
    have E2 := aside e2
    have E3 := aside e3
    have E4 := aside e4
    have E5 := aside e5
    have HG := aside hg
    clear ho hb hpre e1 e2 e3 e4 e5 hg R0
    cases T' with
    | nil =>
      obtain rfl : p = none := hT'
      have he : Tr.lower k T = L := by have := E3.out; simpa [Tr.lower] using this
      have HE := aside he
      clear he
      go_wp2
      go_ret3
      refine ⟨pre, none, b0, cap, by rw [HE.out]; rfl, by rw [E2.out]; rfl, HO.out, HB.out, HP.out, by rw [E1.out]; simp [Tr.path]⟩
    | node l k' v s r =>
      have HT' := aside hT'
      obtain ⟨b, lp, rp, rfl, hbk, hl, hr⟩ := hT'
      have HL := aside hl
      have HR := aside hr
      have HK := aside hbk
      have hn := nodeE (blk_on hbk HB.out)
      obtain ⟨c0, -, -, -, -, -, -, -, -, c1, c2, -, -, -, -, -⟩ := hn
      clear hbk hl hr
      have CW := aside (fun (W : World) (h : Stay 120 w1 W) => rowsE (HL.out.on h))
      obtain ⟨lc, hlc⟩ : ∃ x : Int, (l.cnt : Int) = x := ⟨_, rfl⟩
      rw [hlc] at CW
      have HLC := aside hlc
      clear hlc
      cases q1 : Op.bytesLess k.toList k'.toList
      · cases q2 : Op.bytesLess k'.toList k.toList
        · have Q1 := aside (show kLt k k' = false from q1)
          have Q2 := aside (show kLt k' k = false from q2)
          have hgt : binOp .gtr 9 (.string k) (.string k') = pure (.bool false) := str_gtr (kLt_same Q1.out Q2.out)
          have hsum : IntKind.i64.wrap ((L : Int) + lc) = ((Tr.lower k T : Nat) : Int) := by
            have h1 := E3.out
            have h2 := HLC.out
            have h3 := HCN.out
            have h4 := E5.out
            simp only [Tr.lower, Q1.out, Q2.out, Bool.false_eq_true, if_false] at h1
            simp only [Tr.cnt] at h4
            rw [IntKind.wrap_i64]
            omega
          have HS := aside hsum
          clear hsum
          obtain ⟨lo, hlo⟩ : ∃ x : Int, IntKind.i64.wrap ((L : Int) + lc) = x := ⟨_, rfl⟩
          have HS2 := aside (hlo.symm.trans HS.out)
          go_wp2_with fail
          refine (CW.out _ (fun _ _ e => blk_on e HB.out)).mono ?_
          rintro e w2 ⟨rfl, rfl⟩
          go_wp2
          go_ret3
          refine ⟨pre, some ⟨b, 0, none⟩, b0, cap, ?_, ?_, HO.out, HB.out, HP.out, ?_⟩
          · rw [← HS2.out]; rfl
          · rw [E2.out]; simp only [Tr.found, Q1.out, Q2.out, Bool.false_eq_true, if_false]; exact HT'.out
          · rw [E1.out]; simp [Tr.path, Q1.out, Q2.out]
        · have Q1 := aside (show kLt k k' = false from q1)
          have Q2 := aside (show kLt k' k = true from q2)
          have hgt : binOp .gtr 9 (.string k) (.string k') = pure (.bool true) := str_gtr (kLt_over Q2.out)
          have hlen : pre.length ≤ 1000000 := by have := E4.out; have := HHT.out; omega
          have HLEN := aside hlen
          clear hlen
          go_wp2_with (at_builtin; refine wpList_append_lies _ rfl _ _ _ rfl w1.heap.size 109 i0 (.pointer none) 1 8 Tryd.underlying114 hi0 hz0 hz1 hz2 rfl (by decide) _ _ _ (by rfl) (HO.out.alloc _) ⟨wr.heap.size, 0, none⟩ 1 1 [.pointer (some ⟨b, 0, none⟩)] (by rfl) (by rfl) (World.news_of_block (cs := #[.pointer (some ⟨b, 0, none⟩)]) (t := 109) (fr := (0, 0)) (heap_alloc_new wr _)) (by simp [Value.oneCell']) (by first | omega | skip) (by have := HLEN.out; unfold maxLen; omega) (by have := HLEN.out; omega) (by have := HB.out.size; simp; omega) (wr.heap.size + 1) (by simp) ?_; intro b1 cp w1 hown1 hgrow hat hlt1; refine Hid.out ?_)
          refine aside ?_
          obtain ⟨O1, B1⟩ := down_rowE (T' := Tr.node l k' v s r) HB.out HO.out hgrow hown1
          have HO1 := aside O1
          have HB1 := aside B1
          have hn := nodeE (blk_on HK.out B1)
          obtain ⟨d0, -, -, -, -, -, -, -, -, d1, d2, -, -, -, -, -⟩ := hn
          clear O1 B1 hgrow hown1 hat hlt1 c0 c1 c2
          go_wp2_with fail
          refine (CW.out _ (fun _ _ e => blk_on e HB1.out)).mono ?_
          rintro e w2 ⟨rfl, rfl⟩
          have hs1 : IntKind.i64.wrap (lc + 1) = lc + 1 := by
            have h2 := HLC.out
            have h3 := HCN.out
            have h4 := E5.out
            simp only [Tr.cnt] at h4
            rw [IntKind.wrap_i64]
            omega
          have hs2 : IntKind.i64.wrap ((L : Int) + (lc + 1)) = ((L + (l.cnt + 1) : Nat) : Int) := by
            have h2 := HLC.out
            have h3 := HCN.out
            have h4 := E5.out
            simp only [Tr.cnt] at h4
            rw [IntKind.wrap_i64]
            omega
          obtain ⟨lo, hlo⟩ : ∃ x : Int, IntKind.i64.wrap ((L : Int) + (lc + 1)) = x := ⟨_, rfl⟩
          have HS2 := aside (hlo.symm.trans hs2)
          clear hs2
          go_wp2
          go_roundg r.ht
          case measure => have := HG.out; simp only [Tr.ht] at this; omega
          case rel =>
            refine ⟨pre ++ [(some ⟨b, 0, none⟩, Tr.node l k' v s r)], rp, r, L + (l.cnt + 1), b1, cp, by simp, rfl, by rw [← HS2.out], HR.out, Nat.le_refl _, HO1.out, HB1.out, ?_, ?_, ?_, ?_, ?_, ?_⟩
            · intro x hx
              rcases List.mem_append.1 hx with hx | hx
              · exact HP.out x hx
              · rw [List.mem_singleton.1 hx]; exact HT'.out
            · rw [E1.out]; simp [Tr.path, Q1.out, Q2.out]
            · rw [E2.out]; simp [Tr.found, Q1.out, Q2.out]
            · rw [E3.out]; simp only [Tr.lower, Q1.out, Q2.out, Bool.false_eq_true, if_false, if_true]; omega
            · have := E4.out; simp only [Tr.ht] at this; simp; omega
            · have := E5.out; simp only [Tr.cnt] at this; omega
      · have Q1 := aside (show kLt k k' = true from q1)
        have hlen : pre.length ≤ 1000000 := by have := E4.out; have := HHT.out; omega
        have HLEN := aside hlen
        clear hlen
        go_wp2_with (at_builtin; refine wpList_append_lies _ rfl _ _ _ rfl w1.heap.size 109 i0 (.pointer none) 1 8 Tryd.underlying114 hi0 hz0 hz1 hz2 rfl (by decide) _ _ _ (by rfl) (HO.out.alloc _) ⟨wr.heap.size, 0, none⟩ 1 1 [.pointer (some ⟨b, 0, none⟩)] (by rfl) (by rfl) (World.news_of_block (cs := #[.pointer (some ⟨b, 0, none⟩)]) (t := 109) (fr := (0, 0)) (heap_alloc_new wr _)) (by simp [Value.oneCell']) (by first | omega | skip) (by have := HLEN.out; unfold maxLen; omega) (by have := HLEN.out; omega) (by have := HB.out.size; simp; omega) (wr.heap.size + 1) (by simp) ?_; intro b1 cp w1 hown1 hgrow hat hlt1; refine Hid.out ?_)
        refine aside ?_
        obtain ⟨O1, B1⟩ := down_rowE (T' := Tr.node l k' v s r) HB.out HO.out hgrow hown1
        have HO1 := aside O1
        have HB1 := aside B1
        have hn := nodeE (blk_on HK.out B1)
        obtain ⟨d0, -, -, -, -, -, -, -, -, d1, d2, -, -, -, -, -⟩ := hn
        clear O1 B1 hgrow hown1 hat hlt1 c0 c1 c2
        go_wp2
        go_roundg l.ht
        case measure => have := HG.out; simp only [Tr.ht] at this; omega
        case rel =>
          refine ⟨pre ++ [(some ⟨b, 0, none⟩, Tr.node l k' v s r)], lp, l, L, b1, cp, by simp, rfl, rfl, HL.out, Nat.le_refl _, HO1.out, HB1.out, ?_, ?_, ?_, ?_, ?_, ?_⟩
          · intro x hx
            rcases List.mem_append.1 hx with hx | hx
            · exact HP.out x hx
            · rw [List.mem_singleton.1 hx]; exact HT'.out
          · rw [E1.out]; simp [Tr.path, Q1.out]
          · rw [E2.out]; simp [Tr.found, Q1.out]
          · rw [E3.out]; simp [Tr.lower, Q1.out]
          · have := E4.out; simp only [Tr.ht] at this; simp; omega
          · have := E5.out; simp only [Tr.cnt] at this; omega

end Go.Proofs.YtlgcdcjhflihiaaDoor

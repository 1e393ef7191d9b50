/-
  Bytes that a call owns: what they are as text, and small laws on rows of bytes that the walks of this seat share.
  Memory that a call has made: which blocks a step may turn (Keeps), a writer in its block (IsW), and what an append to it leaves.
  Plain mathematics: the order of keys, trees of rows, what Put makes of them.
  Memory of trees: blocks of one type that stay, a counter of joins, summaries.
  Small facts on blocks of two cells (sums), on frames, and entries as plain data.
  Versions: which may be, how they compare, which is the next; the code's calls and the document's own, each as a plain function.
  The law ItemOrder, walked: it returns true at any three versions.
  Names of sessions: which may be, how they compare; the code's calls and the document's own, each as a plain function.
  Plain mathematics of ranges of keys: which may be, which are empty, which keys they hold.
  Check, the code's and the document's own: each returns the number that the plain function gives, and writes nothing that was there.
  Empty and Holds, the code's and the document's own: each returns what the plain function gives, and writes nothing that was there.
  Entries: which may be, which is newer, the better of two; the next version; the code's calls and the document's own.
  Parts of frames, plain: which may be, one by one and all of them.
  A list of entries in memory.
  Lists of parts in memory.
  What == says of two sums.
  Tallies: their three cells, what == says of two, and of sums within them.
  The code's small calls on parts and frames.
  checkEntries and checkPart, the code's.
  countEntries, CheckParts, isOpening and Check, the code's.
  CheckParts, isOpening and Check, the code's.
  isOpening and Check, the code's.
  What is wrong with a part's entries: the document's own.
  What is wrong with one part, behind those ahead of it: the document's own.
-/
import Derived.Test.YtoabncoigleiaaaProg
import Derived.WalkKit
import Derived.WalkSpells
import Derived.WalkLawsBesides
import Derived.OwnWalk
import Derived.Lib.UnsafeStr
import Derived.Laws.IdiomStrings
import Derived.Deep.AppendLies
import Derived.KernelRfl
import Derived.Below
import Derived.Laws.Rows
import Derived.Laws.StructEq
import Derived.Laws.Cover1
import Derived.Laws.Tables
import Derived.Laws.Cover2
import Derived.Deep.RegionHeld
import Derived.Deep.CutBlock
import Derived.Deep.DeepCutAuto
namespace Go.Proofs.Ytoabncoigleiaaa
open Go.RowKit
/-- A fact put aside: the walk does not look behind the name. -/
theorem aside {p : Prop} (h : p) : Hid p := h
end Go.Proofs.Ytoabncoigleiaaa
namespace Go.Proofs.Ytoabncoigleiaaa
open Go.RowKit
/-- Of the blocks that were there only those in S may have turned; streams as they were; no block has gone. -/
structure Keeps (S : Nat → Prop) (w w' : World) : Prop where
  os : w'.os = w.os
  tape : w'.tape = w.tape
  output : w'.output = w.output
  size : w.heap.size ≤ w'.heap.size
  block : ∀ k, k < w.heap.size → ¬ S k → w'.heap[k]? = w.heap[k]?
theorem Keeps.refl (S : Nat → Prop) (w : World) : Keeps S w w := ⟨rfl, rfl, rfl, Nat.le_refl _, fun _ _ _ => rfl⟩
theorem Keeps.trans {S : Nat → Prop} {a b c : World} (h : Keeps S a b) (k : Keeps S b c) : Keeps S a c :=
  ⟨k.os.trans h.os, k.tape.trans h.tape, k.output.trans h.output, Nat.le_trans h.size k.size, fun i hi hs => (k.block i (Nat.lt_of_lt_of_le hi h.size) hs).trans (h.block i hi hs)⟩
theorem Keeps.mono {S S' : Nat → Prop} {w w' : World} (h : Keeps S w w') (hS : ∀ k, k < w.heap.size → S k → S' k) : Keeps S' w w' :=
  ⟨h.os, h.tape, h.output, h.size, fun k hk hs => h.block k hk (fun s => hs (hS k hk s))⟩
theorem Keeps.drew {S : Nat → Prop} {a w : World} (h : Keeps S a w) : Keeps S a w.drew := ⟨h.os, h.tape, h.output, h.size, h.block⟩
theorem Keeps.alloc {S : Nat → Prop} {a w : World} (h : Keeps S a w) (o : Obj) : Keeps S a (w.alloc o) :=
  h.trans ⟨rfl, rfl, rfl, by simp, fun k hk _ => Below.heap_alloc _ _ _ hk⟩
theorem Keeps.setCell {S : Nat → Prop} {a w : World} (h : Keeps S a w) {p : Addr} (hp : p.block < a.heap.size → S p.block) (u : Value) : Keeps S a (w.setCell p u) :=
  ⟨h.os, h.tape, h.output, Nat.le_trans h.size (by simp [World.setCell]), fun k hk hs => by
    have hne : k ≠ p.block := fun e => by subst e; exact hs (hp hk)
    rw [Below.heap_setCell _ _ _ _ hne]
    exact h.block k hk hs⟩
theorem Keeps.grown {S : Nat → Prop} {a w w' : World} {row : Option Nat} (h : Keeps S a w) (hg : w.grownBy w' row) (hr : ∀ k, row = some k → k < a.heap.size → S k) : Keeps S a w' :=
  ⟨hg.os.trans h.os, hg.tape.trans h.tape, hg.output.trans h.output, Nat.le_trans h.size hg.size, fun k hk hs => (hg.block k (Nat.lt_of_lt_of_le hk h.size) (fun e => hs (hr k e.symm hk))).trans (h.block k hk hs)⟩
theorem Keeps.below {S : Nat → Prop} {w w' : World} (h : Keeps S w w') {B : Nat} (hB : B ≤ w.heap.size) (hS : ∀ k, k < B → ¬ S k) : Below B w w' :=
  ⟨h.os, h.tape, h.output, h.size, fun k hk => h.block k (Nat.lt_of_lt_of_le hk hB) (hS k hk)⟩
theorem Keeps.of_below {w w' : World} (h : Below w.heap.size w w') (S : Nat → Prop) : Keeps S w w' :=
  ⟨h.os, h.tape, h.output, h.size, fun k hk _ => h.block k hk⟩
theorem Keeps.cell {S : Nat → Prop} {w w' : World} (h : Keeps S w w') {p : Addr} (hp : p.block < w.heap.size) (hn : ¬ S p.block) : w'.cell? p = w.cell? p := World.cell?_of_block (w := w) (h.block p.block hp hn)
theorem ownsRow_keep {S : Nat → Prop} {w w' : World} {base : Nat} {e : TypeId} {size : Nat} {v : Value} {n : Nat} {xs : List Value} (h : w.ownsRow base e size v n xs) (k : Keeps S w w') (hv : ∀ j, v.ownBlock = some j → ¬ S j) : w'.ownsRow base e size v n xs := by
  refine ⟨h.1, ?_⟩
  rcases h.2 with hn | ⟨g, cap, cur, rfl, hb, hg, r⟩
  · exact .inl hn
  · refine .inr ⟨g, cap, cur, rfl, hb, ?_, r⟩
    rw [k.block g (Array.getElem?_eq_some_iff.1 hg).1 (hv g rfl)]
    exact hg
/-- The row that a value owns is the old one, or was made since. -/
def Fresh (w : World) (g g' : Option Nat) : Prop := g' = g ∨ ∃ k, g' = some k ∧ w.heap.size ≤ k
theorem Fresh.trans {w w1 : World} {g g1 g2 : Option Nat} (h : Fresh w g g1) (k : Fresh w1 g1 g2) (hw : w.heap.size ≤ w1.heap.size) : Fresh w g g2 := by
  rcases k with rfl | ⟨j, rfl, hj⟩
  · exact h
  · exact .inr ⟨j, rfl, Nat.le_trans hw hj⟩
/-- Two steps that each turn block b and the row then owned. -/
theorem Keeps.step {b : Nat} {w wr w2 : World} {g g1 : Option Nat} (h1 : Keeps (fun k => k = b ∨ g = some k) w wr) (fr : Fresh w g g1) (h2 : Keeps (fun k => k = b ∨ g1 = some k) wr w2) : Keeps (fun k => k = b ∨ g = some k) w w2 :=
  ⟨h2.os.trans h1.os, h2.tape.trans h1.tape, h2.output.trans h1.output, Nat.le_trans h1.size h2.size, fun k hk hs =>
    (h2.block k (Nat.lt_of_lt_of_le hk h1.size) (fun e => by
      rcases e with e | e
      · exact hs (.inl e)
      · rcases fr with rfl | ⟨j, rfl, hj⟩
        · exact hs (.inr e)
        · cases e; omega)).trans (h1.block k hk hs)⟩
/-- A writer (a struct of one slice of bytes) of type T in block b, one of the blocks from B on; its row is in block g; it holds the bytes l. -/
def IsW (T B b : Nat) (g : Option Nat) (l : List UInt8) (w : World) : Prop :=
  B ≤ b ∧ g ≠ some b ∧ ∃ v, w.heap[b]? = some (.cells #[v] T (0, 0)) ∧ v.ownBlock = g ∧ w.ownsRow B 5 1 v l.length (Lib.byteCells l)
theorem IsW.lt {T B b : Nat} {g : Option Nat} {l : List UInt8} {w : World} (h : IsW T B b g l w) : b < w.heap.size := by
  obtain ⟨_, _, v, hv, _⟩ := h
  exact (Array.getElem?_eq_some_iff.1 hv).1
theorem IsW.row {T B b : Nat} {g : Option Nat} {l : List UInt8} {w : World} (h : IsW T B b g l w) : ∀ k, g = some k → B ≤ k ∧ k < w.heap.size := by
  obtain ⟨_, _, v, _, rfl, ho⟩ := h
  exact ho.lt
theorem IsW.keep {S : Nat → Prop} {T B b : Nat} {g : Option Nat} {l : List UInt8} {w w' : World} (h : IsW T B b g l w) (k : Keeps S w w') (hb : ¬ S b) (hg : ∀ j, g = some j → ¬ S j) : IsW T B b g l w' := by
  have hlt := h.lt
  obtain ⟨h1, h2, v, hv, rfl, ho⟩ := h
  exact ⟨h1, h2, v, (k.block b hlt hb).trans hv, rfl, ownsRow_keep ho k hg⟩
end Go.Proofs.Ytoabncoigleiaaa
namespace Go.Proofs.Ytoabncoigleiaaa
open Go.RowKit
/-- A key is lower than another. -/
def kLt (a b : ByteArray) : Bool := Op.bytesLess a.toList b.toList
/-- A row. -/
structure Rw (β α : Type) where
  k : ByteArray
  v : β
  s : α
/-- A tree of rows. -/
inductive Tr (β α : Type) where
  | nil : Tr β α
  | node (l : Tr β α) (k : ByteArray) (v : β) (s : α) (r : Tr β α) : Tr β α
namespace Tr
variable {β α : Type}
def cnt : Tr β α → Nat
  | nil => 0
  | node l _ _ _ r => l.cnt + 1 + r.cnt
def ht : Tr β α → Nat
  | nil => 0
  | node l _ _ _ r => max l.ht r.ht + 1
def rows : Tr β α → List (Rw β α)
  | nil => []
  | node l k v s r => l.rows ++ ⟨k, v, s⟩ :: r.rows
/-- A node turned to the right. -/
def turnR (k : ByteArray) (v : β) (s : α) (l r : Tr β α) : Tr β α :=
  match l with
  | nil => node nil k v s r
  | node ll lk lv ls lr =>
    if lr.ht ≤ ll.ht then node ll lk lv ls (node lr k v s r) else
      match lr with
      | nil => node (node ll lk lv ls nil) k v s r
      | node a ik iv is b => node (node ll lk lv ls a) ik iv is (node b k v s r)
def turnL (k : ByteArray) (v : β) (s : α) (l r : Tr β α) : Tr β α :=
  match r with
  | nil => node l k v s nil
  | node rl rk rv rs rr =>
    if rl.ht ≤ rr.ht then node (node l k v s rl) rk rv rs rr else
      match rl with
      | nil => node l k v s (node nil rk rv rs rr)
      | node a ik iv is b => node (node l k v s a) ik iv is (node b rk rv rs rr)
def level (k : ByteArray) (v : β) (s : α) (l r : Tr β α) : Tr β α :=
  if l.ht = r.ht + 2 then turnR k v s l r else if r.ht = l.ht + 2 then turnL k v s l r else node l k v s r
def put (k : ByteArray) (v : β) (s : α) : Tr β α → Tr β α
  | nil => node nil k v s nil
  | node l k' v' s' r =>
    if kLt k k' then level k' v' s' (put k v s l) r else if kLt k' k then level k' v' s' l (put k v s r) else node l k v s r
end Tr
end Go.Proofs.Ytoabncoigleiaaa
namespace Go.Proofs.Ytoabncoigleiaaa
open Go.RowKit
set_option linter.unusedVariables false
theorem bthen {w w1 w2 : World} (h : Below w.heap.size w w1) (h2 : Below w1.heap.size w1 w2) : Below w.heap.size w w2 := h.trans (h2.mono h.size)
theorem bnew (w : World) (o : Obj) : Below w.heap.size w (w.alloc o) := (Below.refl _ w).alloc (Nat.le_refl _) _
theorem blk_on {w w' : World} {i : Nat} {o : Obj} (h : w.heap[i]? = some o) (b : Below w.heap.size w w') : w'.heap[i]? = some o := (b.block i (Array.getElem?_eq_some_iff.1 h).1).trans h
theorem lt_of_blk {w : World} {i : Nat} {o : Obj} (h : w.heap[i]? = some o) : i < w.heap.size := (Array.getElem?_eq_some_iff.1 h).1
theorem blk_keep {S : Nat → Prop} {w w' : World} {i : Nat} {o : Obj} (h : w.heap[i]? = some o) (k : Keeps S w w') (hn : ¬ S i) : w'.heap[i]? = some o := (k.block i (lt_of_blk h) hn).trans h
/-- Blocks of the type T stay as they are. -/
def Stay (T : TypeId) (w w' : World) : Prop := ∀ (b : Nat) (cs : Array Value), w.heap[b]? = some (.cells cs T (0, 0)) → w'.heap[b]? = some (.cells cs T (0, 0))
theorem Stay.refl (T : TypeId) (w : World) : Stay T w w := fun _ _ h => h
theorem Stay.trans {T : TypeId} {a b c : World} (h : Stay T a b) (k : Stay T b c) : Stay T a c := fun _ _ e => k _ _ (h _ _ e)
theorem Stay.drew {T : TypeId} {a b : World} (h : Stay T a b) : Stay T a b.drew := fun _ _ e => h _ _ e
theorem Stay.alloc {T : TypeId} {a b : World} (h : Stay T a b) (o : Obj) : Stay T a (b.alloc o) := fun _ _ e => blk_on (h _ _ e) (bnew _ _)
theorem Stay.setCell {T : TypeId} {a b : World} (h : Stay T a b) {p : Addr} (u : Value) (hp : ∀ cs, b.heap[p.block]? ≠ some (.cells cs T (0, 0))) : Stay T a (b.setCell p u) := fun i _ e => by
  rw [heap_setCell_other]
  · exact h _ _ e
  · rintro rfl; exact hp _ (h _ _ e)
theorem Stay.grown {T : TypeId} {a b c : World} {row : Option Nat} (h : Stay T a b) (hg : b.grownBy c row) (hrow : ∀ r, row = some r → ∀ cs, b.heap[r]? ≠ some (.cells cs T (0, 0))) : Stay T a c := fun i _ e => by
  have e1 := h _ _ e
  rw [hg.block i (lt_of_blk e1) (fun e2 => hrow i e2.symm _ e1)]
  exact e1
/-- How often a join was called, where it counts: in the block c. -/
def Cnt (c : Option Nat) (n : Nat) (w : World) : Prop := ∀ b : Nat, c = some b → w.heap[b]? = some (.cells #[.int .i64 (IntKind.i64.wrap (n : Int))] 3 (0, 0))
/-- The counter's block. -/
def OnC (c : Option Nat) : Nat → Prop := fun k => c = some k
theorem Cnt.drew {c : Option Nat} {n : Nat} {w : World} (h : Cnt c n w) : Cnt c n w.drew := h
theorem Cnt.alloc {c : Option Nat} {n : Nat} {w : World} (h : Cnt c n w) (o : Obj) : Cnt c n (w.alloc o) := fun b e => blk_on (h b e) (bnew _ _)
theorem Cnt.keep {S : Nat → Prop} {c : Option Nat} {n : Nat} {w w' : World} (h : Cnt c n w) (k : Keeps S w w') (hS : ∀ b, c = some b → ¬ S b) : Cnt c n w' := fun b e => blk_keep (h b e) k (hS b e)
theorem Cnt.below {c : Option Nat} {n : Nat} {w w' : World} (h : Cnt c n w) (k : Below w.heap.size w w') : Cnt c n w' := fun b e => blk_on (h b e) k
theorem Cnt.apart {c : Option Nat} {n : Nat} {w : World} (h : Cnt c n w) {i : Nat} {cs : Array Value} {T : TypeId} (hi : w.heap[i]? = some (.cells cs T (0, 0))) (hT : T ≠ 3) : ¬ OnC c i := fun e => by
  have := h i e
  rw [hi] at this
  injection this with this
  injection this with _ e2
  exact hT e2
theorem Cnt.setCell {c : Option Nat} {n : Nat} {w : World} (h : Cnt c n w) {p : Addr} (u : Value) (hp : ¬ OnC c p.block) : Cnt c n (w.setCell p u) := fun b e => by
  rw [heap_setCell_other]
  · exact h b e
  · intro e2; exact hp (by show c = some p.block; rw [e, e2])
theorem Cnt.lt {c : Option Nat} {n : Nat} {w : World} (h : Cnt c n w) {i : Nat} (hi : w.heap.size ≤ i) : ¬ OnC c i := fun e => by
  have := lt_of_blk (h i e)
  omega
/-- A Map. -/
structure Mp where
  A : UInt64
  B : UInt64
def Mp.a (m : Mp) : Int := (m.A.toNat : Int)
def Mp.b (m : Mp) : Int := (m.B.toNat : Int)
end Go.Proofs.Ytoabncoigleiaaa
namespace Go.Proofs.Ytoabncoigleiaaa
open Go.RowKit
set_option linter.unusedVariables false
/-- An entry, plain. -/
structure En where
  k : ByteArray
  c : Int
  n : Int
  v : ByteArray
  d : Bool
theorem cell_in {W W' : World} {p : Addr} {v : Value} (h : W.cell? p = some v) (b : Below W.heap.size W W') : W'.cell? p = some v :=
  (World.cell?_of_block (w := W) (b.block p.block (World.block_lt_of_cell? W _ h))).trans h
/-- What is kept of the world in a loop over a sum's two elements: own blocks from n on. -/
structure Two (w wr : World) (i : Nat) (a b : Int) : Prop where
  below : Below w.heap.size w wr
  low : w.heap.size ≤ i
  blk : wr.heap[i]? = some (.cells #[.int .u64 a, .int .u64 b] 46 (0, 0))
end Go.Proofs.Ytoabncoigleiaaa
namespace Go.Proofs.Ytoabncoigleiaaa
open Go.RowKit
/-- Two numbers. -/
def Vs.c2 (x y : Int) : Int := if y < x then 1 else if x < y then -1 else 0
/-- Two versions. -/
def Vs.cmp (a n b m : Int) : Int := if b < a then 1 else if a < b then -1 else Vs.c2 n m
/-- Whether a version may be. -/
def Vs.chk (c n : Int) : Int := if c < 1 ∨ 1099511627776 < c ∨ n < 0 ∨ 8 ≤ n then 30 else 0
end Go.Proofs.Ytoabncoigleiaaa
namespace Go.Proofs.Ytoabncoigleiaaa
open Go.RowKit
theorem cmp_three (a n b m : Int) : Vs.cmp a n b m = 1 ∧ (b < a ∨ (a = b ∧ m < n)) ∨ Vs.cmp a n b m = 0 ∧ a = b ∧ n = m ∨ Vs.cmp a n b m = -1 ∧ (a < b ∨ (a = b ∧ n < m)) := by
  unfold Vs.cmp Vs.c2
  by_cases h1 : b < a
  · rw [if_pos h1]; omega
  · by_cases h2 : a < b
    · rw [if_neg h1, if_pos h2]; omega
    · by_cases h3 : m < n
      · rw [if_neg h1, if_neg h2, if_pos h3]; omega
      · by_cases h4 : n < m
        · rw [if_neg h1, if_neg h2, if_neg h3, if_pos h4]; omega
        · rw [if_neg h1, if_neg h2, if_neg h3, if_neg h4]; omega
end Go.Proofs.Ytoabncoigleiaaa
namespace Go.Proofs.Ytoabncoigleiaaa
open Go.RowKit
set_option linter.unusedVariables false
/-- Two names. -/
def Nm.cmp (a l n b m k : Int) : Int := if b < a then 1 else if a < b then -1 else Vs.cmp l n m k
/-- Whether a name may be. -/
def Nm.chk (a l n : Int) : Int := if a < 0 ∨ 8 ≤ a then 110 else if l < 1 ∨ 1048576 < l ∨ n < 1 ∨ 1048576 < n then 111 else 0
theorem Nm.lt {a b : Int} (h : a < b) (l n m k : Int) : Nm.cmp a l n b m k = -1 := by unfold Nm.cmp; rw [if_neg (by omega), if_pos h]
theorem Nm.gt {a b : Int} (h : b < a) (l n m k : Int) : Nm.cmp a l n b m k = 1 := by unfold Nm.cmp; rw [if_pos h]
theorem Nm.eq (a l n m k : Int) : Nm.cmp a l n a m k = Vs.cmp l n m k := by unfold Nm.cmp; rw [if_neg (by omega), if_neg (by omega)]
theorem Nm.three (a l n b m k : Int) : Nm.cmp a l n b m k = 1 ∧ (b < a ∨ (a = b ∧ (m < l ∨ (l = m ∧ k < n)))) ∨ Nm.cmp a l n b m k = 0 ∧ a = b ∧ l = m ∧ n = k ∨ Nm.cmp a l n b m k = -1 ∧ (a < b ∨ (a = b ∧ (l < m ∨ (l = m ∧ n < k)))) := by
  rcases Int.lt_trichotomy a b with h | h | h
  · exact .inr (.inr ⟨Nm.lt h _ _ _ _, .inl h⟩)
  · subst h
    rw [Nm.eq]
    rcases cmp_three l n m k with h | h | h
    · exact .inl ⟨h.1, .inr ⟨rfl, h.2⟩⟩
    · exact .inr (.inl ⟨h.1, rfl, h.2.1, h.2.2⟩)
    · exact .inr (.inr ⟨h.1, .inr ⟨rfl, h.2⟩⟩)
  · exact .inl ⟨Nm.gt h _ _ _ _, .inl h⟩
theorem name_run (a l n b m k : Int) (w : World) : (binOp .eql 23 (.agg #[.int .i64 a, .int .i64 l, .int .i64 n]) (.agg #[.int .i64 b, .int .i64 m, .int .i64 k])).run Try.prog w = .ok (.bool (a == b && (l == m && n == k))) w := by
  rw [run_eql_struct, show (10000 : Nat) = 9999 + 1 from rfl]
  go_simp
  by_cases h1 : a = b <;> by_cases h2 : l = m <;> by_cases h3 : n = k <;> simp [h1, h2, h3]
end Go.Proofs.Ytoabncoigleiaaa
namespace Go.Proofs.Ytoabncoigleiaaa
open Go.RowKit
/-- A range: its bounds, and whether it is open. -/
structure Rg where
  lo : ByteArray
  hi : ByteArray
  op : Bool
namespace Rg
/-- The number that Check gives. -/
def chk (r : Rg) : Int :=
  if 16 < (r.lo.size : Int) ∨ 16 < (r.hi.size : Int) then 20
  else if (r.op && !r.hi.toList.isEmpty) || (!r.op && (!Op.bytesLess r.lo.toList r.hi.toList && !(r.lo.toList == r.hi.toList))) then 21 else 0
/-- May it be? -/
def may (r : Rg) : Bool := chk r == 0
/-- Is it empty, or may it not be? -/
def emp (r : Rg) : Bool := !r.may || (!r.op && (r.lo.toList == r.hi.toList))
/-- Does it hold a key? -/
def has (r : Rg) (k : ByteArray) : Bool := r.may && decide ((k.size : Int) ≤ 16) && !Op.bytesLess k.toList r.lo.toList && (r.op || Op.bytesLess k.toList r.hi.toList)
end Rg
end Go.Proofs.Ytoabncoigleiaaa
namespace Go.Proofs.Ytoabncoigleiaaa
open Go.RowKit
end Go.Proofs.Ytoabncoigleiaaa
namespace Go.Proofs.Ytoabncoigleiaaa
open Go.RowKit
end Go.Proofs.Ytoabncoigleiaaa
namespace Go.Proofs.Ytoabncoigleiaaa
open Go.RowKit
/-- Whether it may be. -/
def En.chk (e : En) : Int :=
  if (16 : Int) < e.k.size then 20 else if Vs.chk e.c e.n ≠ 0 then 30 else if (32 : Int) < e.v.size then 31 else bif (e.d && !e.v.toList.isEmpty) then 32 else 0
end Go.Proofs.Ytoabncoigleiaaa
namespace Go.Proofs.Ytoabncoigleiaaa
open Go.RowKit
set_option linter.unusedVariables false
/-- A part: its kind, range, tally, and its entries with the slice that holds them. -/
structure Pm where
  kind : Int
  lo : ByteArray
  hi : ByteArray
  op : Bool
  cnt : Int
  s0 : Int
  s1 : Int
  ea : Option Addr
  el : Nat
  ec : Nat
  T : Nat → En
def Pm.rg (p : Pm) : Rg := ⟨p.lo, p.hi, p.op⟩
/-- Whether it has no fields but its own. -/
def Pm.alone (p : Pm) : Bool := if p.kind = 1 then p.el == 0 else if p.kind = 2 ∨ p.kind = 3 then p.cnt == 0 && (p.s0 == 0 && p.s1 == 0) else false
/-- What is wrong with a tally. -/
def tlChk (c a b : Int) : Int := if c < 0 ∨ 256 < c then 117 else if c = 0 ∧ ¬ (a = 0 ∧ b = 0) then 117 else 0
/-- What is wrong with the entry i of a part. -/
def itAt (r : Rg) (T : Nat → En) (i : Nat) : Int := if (T i).chk ≠ 0 then (T i).chk else if r.has (T i).k = false ∨ (0 < i ∧ kLt (T (i - 1)).k (T i).k = false) then 116 else 0
/-- What is wrong first with n entries of a part. -/
def itN (r : Rg) (T : Nat → En) : Nat → Int
  | 0 => 0
  | n + 1 => if itN r T n ≠ 0 then itN r T n else itAt r T n
/-- What is wrong with the entries of a part. -/
def Pm.its (p : Pm) : Int := if itN p.rg p.T p.el ≠ 0 then itN p.rg p.T p.el else if p.kind = 3 ∧ p.el = 0 then 116 else 0
/-- What is wrong with a part, behind a range. -/
def Pm.chk (p : Pm) (hi : ByteArray) (op : Bool) : Int :=
  if p.alone = false then 114 else if p.rg.chk ≠ 0 then p.rg.chk else if p.rg.emp = true ∨ op = true ∨ kLt p.lo hi = true then 115 else if p.kind = 1 then tlChk p.cnt p.s0 p.s1 else p.its
/-- How many entries n parts have. -/
def totE (P : Nat → Pm) : Nat → Nat
  | 0 => 0
  | n + 1 => totE P n + (P n).el
theorem totE_mono (P : Nat → Pm) : ∀ {i n : Nat}, i ≤ n → totE P i ≤ totE P n := by
  intro i n h
  induction n with
  | zero => obtain rfl : i = 0 := by omega
            exact Nat.le_refl _
  | succ n ih =>
    rcases Nat.lt_or_ge n i with g | g
    · obtain rfl : i = n + 1 := by omega
      exact Nat.le_refl _
    · have := ih g
      simp only [totE]; omega
theorem el_totE (P : Nat → Pm) {i n : Nat} (h : i < n) : totE P i + (P i).el ≤ totE P n := totE_mono P (i := i + 1) h
section
variable {r : Rg} {T : Nat → En}
end
section
variable {P : Nat → Pm}
end
end Go.Proofs.Ytoabncoigleiaaa
namespace Go.Proofs.Ytoabncoigleiaaa
open Go.RowKit
set_option linter.unusedVariables false
/-- A list of entries in memory, with keys of a size that memory has. -/
def EntsIn (w : World) (a : Option Addr) (len cap : Nat) (T : Nat → En) : Prop :=
  len ≤ cap ∧ cap ≤ maxLen ∧ (len = 0 ∨ ∃ b off, a = some ⟨b, off, none⟩ ∧ b < w.heap.size ∧ ∀ i, i < len →
    (w.cell? ⟨b, off + i * 5, none⟩ = some (.string (T i).k) ∧ w.cell? ⟨b, off + i * 5 + 1, none⟩ = some (.int .i64 (T i).c) ∧ w.cell? ⟨b, off + i * 5 + 2, none⟩ = some (.int .i64 (T i).n) ∧ w.cell? ⟨b, off + i * 5 + 3, none⟩ = some (.string (T i).v) ∧ w.cell? ⟨b, off + i * 5 + 4, none⟩ = some (.bool (T i).d)) ∧ (T i).k.size ≤ 140737488351232)
theorem EntsIn.keep {w w' : World} {a : Option Addr} {len cap : Nat} {T : Nat → En} (h : EntsIn w a len cap T) (b : Below w.heap.size w w') : EntsIn w' a len cap T := by
  obtain ⟨h1, h2, h3⟩ := h
  refine ⟨h1, h2, ?_⟩
  rcases h3 with h3 | ⟨bb, off, rfl, hb, hc⟩
  · exact .inl h3
  · refine .inr ⟨bb, off, rfl, by have := b.size; omega, fun i hi => ?_⟩
    obtain ⟨⟨c0, c1, c2, c3, c4⟩, hk⟩ := hc i hi
    exact ⟨⟨cell_in c0 b, cell_in c1 b, cell_in c2 b, cell_in c3 b, cell_in c4 b⟩, hk⟩
end Go.Proofs.Ytoabncoigleiaaa
namespace Go.Proofs.Ytoabncoigleiaaa
open Go.RowKit
set_option linter.unusedVariables false
/-- The eight cells of a part. -/
def PmAt (w : World) (b off : Nat) (p : Pm) : Prop := w.cell? ⟨b, off, none⟩ = some (.int .i64 p.kind) ∧ w.cell? ⟨b, off + 1, none⟩ = some (.string p.lo) ∧ w.cell? ⟨b, off + 2, none⟩ = some (.string p.hi) ∧ w.cell? ⟨b, off + 3, none⟩ = some (.bool p.op) ∧ w.cell? ⟨b, off + 4, none⟩ = some (.int .i64 p.cnt) ∧ w.cell? ⟨b, off + 5, none⟩ = some (.int .u64 p.s0) ∧ w.cell? ⟨b, off + 6, none⟩ = some (.int .u64 p.s1) ∧ w.cell? ⟨b, off + 7, none⟩ = some (.slice p.ea p.el p.ec)
theorem PmAt.keep {w w' : World} {b off : Nat} {p : Pm} (h : PmAt w b off p) (k : Below w.heap.size w w') : PmAt w' b off p := by
  obtain ⟨c0, c1, c2, c3, c4, c5, c6, c7⟩ := h
  exact ⟨cell_in c0 k, cell_in c1 k, cell_in c2 k, cell_in c3 k, cell_in c4 k, cell_in c5 k, cell_in c6 k, cell_in c7 k⟩
/-- Its entries are there. -/
def Pm.In (w : World) (p : Pm) : Prop := EntsIn w p.ea p.el p.ec p.T
theorem Pm.In.keep {w w' : World} {p : Pm} (h : p.In w) (k : Below w.heap.size w w') : p.In w' := EntsIn.keep h k
/-- A list of parts in memory. -/
def PartsIn (w : World) (a : Option Addr) (len cap : Nat) (P : Nat → Pm) : Prop :=
  len ≤ cap ∧ cap ≤ maxLen ∧ (len = 0 ∨ ∃ b off, a = some ⟨b, off, none⟩ ∧ b < w.heap.size ∧ ∀ i, i < len → PmAt w b (off + i * 8) (P i) ∧ (P i).In w)
theorem PartsIn.keep {w w' : World} {a : Option Addr} {len cap : Nat} {P : Nat → Pm} (h : PartsIn w a len cap P) (k : Below w.heap.size w w') : PartsIn w' a len cap P := by
  obtain ⟨h1, h2, h3⟩ := h
  refine ⟨h1, h2, ?_⟩
  rcases h3 with h3 | ⟨bb, off, rfl, hb, hc⟩
  · exact .inl h3
  · exact .inr ⟨bb, off, rfl, by have := k.size; omega, fun i hi => ⟨(hc i hi).1.keep k, (hc i hi).2.keep k⟩⟩
end Go.Proofs.Ytoabncoigleiaaa
namespace Go.Proofs.Ytoabncoigleiaaa
open Go.RowKit
end Go.Proofs.Ytoabncoigleiaaa
namespace Go.Proofs.Ytoabncoigleiaaa
open Go.RowKit
set_option linter.unusedVariables false
theorem sum_in9 (a b c d : Int) (w : World) : (Op.equalIn 9999 46 (.agg #[.int .u64 a, .int .u64 b]) (.agg #[.int .u64 c, .int .u64 d])).run Try.prog w = .ok (a == c && b == d) w := by
  have u3 := Try.underlying44
  have a3 := Try.isAgg44
  have z3 := Try.sizeOf44
  rw [show (9999 : Nat) = 9998 + 1 from rfl, Op.equalIn]
  simp only [Sem.run_bind, run_underlying Try.underlying46, Result.andThen_ok]
  simp only [Std.Legacy.Range.forIn_eq_forIn_range', Std.Legacy.Range.size, Nat.sub_zero, Nat.add_sub_cancel, Nat.div_one, List.range'_succ, List.range'_zero, List.forIn_cons, List.forIn_nil]
  go_simp
  by_cases h1 : a = c <;> by_cases h2 : b = d <;> simp [h1, h2]
theorem tal_in (n a b m c d : Int) (w : World) : (Op.equalIn 10000 48 (.agg #[.int .i64 n, .int .u64 a, .int .u64 b]) (.agg #[.int .i64 m, .int .u64 c, .int .u64 d])).run Try.prog w = .ok (n == m && (a == c && b == d)) w := by
  have e := sum_in9 a b c d w
  rw [show (10000 : Nat) = 9999 + 1 from rfl]
  go_simp
  by_cases h1 : n = m <;> by_cases h2 : a = c <;> by_cases h3 : b = d <;> simp [h1, h2, h3]
theorem tal_run (n a b m c d : Int) (w : World) : (binOp .eql 48 (.agg #[.int .i64 n, .int .u64 a, .int .u64 b]) (.agg #[.int .i64 m, .int .u64 c, .int .u64 d])).run Try.prog w = .ok (.bool (n == m && (a == c && b == d))) w := by
  rw [run_eql_struct, tal_in]; rfl
theorem tal_ne_run (n a b m c d : Int) (w : World) : (binOp .neq 48 (.agg #[.int .i64 n, .int .u64 a, .int .u64 b]) (.agg #[.int .i64 m, .int .u64 c, .int .u64 d])).run Try.prog w = .ok (.bool (!(n == m && (a == c && b == d)))) w := by
  rw [run_neq_struct, tal_in]; rfl
theorem tal_same (n a b : Int) (w : World) : (binOp .eql 48 (.agg #[.int .i64 n, .int .u64 a, .int .u64 b]) (.agg #[.int .i64 n, .int .u64 a, .int .u64 b])).run Try.prog w = .ok (.bool true) w := by
  rw [tal_run]; simp
theorem tal_ne_same (n a b : Int) (w : World) : (binOp .neq 48 (.agg #[.int .i64 n, .int .u64 a, .int .u64 b]) (.agg #[.int .i64 n, .int .u64 a, .int .u64 b])).run Try.prog w = .ok (.bool false) w := by
  rw [tal_ne_run]; simp
end Go.Proofs.Ytoabncoigleiaaa
namespace Go.Proofs.Ytoabncoigleiaaa
open Go.RowKit
set_option linter.unusedVariables false
end Go.Proofs.Ytoabncoigleiaaa
namespace Go.Proofs.Ytoabncoigleiaaa
open Go.RowKit
set_option linter.unusedVariables false
/-- The cells of a block of eight. -/
theorem oct8 {w : World} {i : Nat} {v0 v1 v2 v3 v4 v5 v6 v7 : Value} {t : TypeId} (h : w.heap[i]? = some (.cells #[v0, v1, v2, v3, v4, v5, v6, v7] t (0, 0))) : w.cell? ⟨i, 0, none⟩ = some v0 ∧ w.cell? ⟨i, 1, none⟩ = some v1 ∧ w.cell? ⟨i, 2, none⟩ = some v2 ∧ w.cell? ⟨i, 3, none⟩ = some v3 ∧ w.cell? ⟨i, 4, none⟩ = some v4 ∧ w.cell? ⟨i, 5, none⟩ = some v5 ∧ w.cell? ⟨i, 6, none⟩ = some v6 ∧ w.cell? ⟨i, 7, none⟩ = some v7 :=
  ⟨by simp [World.cell?, h], by simp [World.cell?, h], by simp [World.cell?, h], by simp [World.cell?, h], by simp [World.cell?, h], by simp [World.cell?, h], by simp [World.cell?, h], by simp [World.cell?, h]⟩
end Go.Proofs.Ytoabncoigleiaaa
namespace Go.Proofs.Ytoabncoigleiaaa
open Go.RowKit
set_option linter.unusedVariables false
theorem set_in {w : World} {b : Nat} (k : Nat) (u : Value) {cs : Array Value} {t : TypeId} (h : w.heap[b]? = some (.cells cs t (0, 0))) : (w.setCell ⟨b, k, none⟩ u).heap[b]? = some (.cells (cs.setIfInBounds k u) t (0, 0)) := by
  simp only [World.setCell]
  rw [Array.getElem?_modify]
  simp [h]
set_option maxHeartbeats 1600000 in
theorem count_any (a : Option Addr) (len cap : Nat) (P : Nat → Pm) (w : World) (h : PartsIn w a len cap P) (hT : totE P len ≤ 4611686018427387904) :
    Calls Try.prog 38 #[.slice a len cap] w fun e w' => e = .returned (.int .i64 (totE P len : Int)) ∧ Below w.heap.size w w' := by
  have HE := aside h
  have HT := aside hT
  obtain ⟨hlc, hcm, -⟩ := h
  have hmx : (len : Int) ≤ 9223372036854775807 := by unfold maxLen at hcm; omega
  clear hlc hcm hT
  go_enter Try.func38, Try.ntmps38
  go_wp2
  go_loopw [3, 8] (fun c i wr => ∃ j : Nat, c = .int .i64 (totE P j : Int) ∧ i = .int .i64 (j : Int) ∧ j ≤ len ∧ Below w.heap.size w wr) (fun c i _ => len - (intOf i).toNat)
  case atStart => exact ⟨0, rfl, rfl, Nat.zero_le _, Below.refl _ _⟩
  case round =>
    obtain ⟨j, rfl, rfl, hj, hB⟩ := hrel
    have HB := aside hB
    clear hB
    by_cases hlt : (j : Int) < (len : Int)
    · have hE := HE.out.keep HB.out
      rcases hE.2.2 with h0 | ⟨b, off, rfl, hb, hc⟩
      · omega
      obtain ⟨hat, hin⟩ := hc j (by omega)
      obtain ⟨p, hp⟩ : ∃ p, P j = p := ⟨_, rfl⟩
      have HP := aside hp
      rw [hp] at hat hin
      clear hp hc
      obtain ⟨kind, lo, hi, op, cnt, s0, s1, ea, el, ec, T⟩ := p
      obtain ⟨c0, c1, c2, c3, c4, c5, c6, c7⟩ := hat
      dsimp only at c0 c1 c2 c3 c4 c5 c6 c7
      have hj0 : (0 : Int) ≤ (j : Int) := by omega
      have hst : totE P (j + 1) = totE P j + el := by simp only [totE, HP.out]
      have HST := aside hst
      have hle : (totE P j : Int) + (el : Int) ≤ 4611686018427387904 := by have h1 := el_totE P (i := j) (n := len) (by omega); rw [HP.out] at h1; dsimp only at h1; have h2 := HT.out; omega
      have hw : IntKind.i64.wrap ((totE P j : Int) + (el : Int)) = (totE P (j + 1) : Int) := by simp only [IntKind.wrap_i64]; omega
      clear hst hle hin
      go_wp2
      go_roundw
      case rel => exact ⟨j + 1, by first | rfl | (rw [hw]), by go_num, by omega, HB.out.trans ((bnew wr _).mono HB.out.size)⟩
      case measure => simp [intOf]; omega
    · have hjl : j = len := by omega
      subst hjl
      go_wp2
      go_ret
      exact ⟨rfl, HB.out⟩
end Go.Proofs.Ytoabncoigleiaaa
namespace Go.Proofs.Ytoabncoigleiaaa
open Go.RowKit
set_option linter.unusedVariables false
end Go.Proofs.Ytoabncoigleiaaa
namespace Go.Proofs.Ytoabncoigleiaaa
open Go.RowKit
set_option linter.unusedVariables false
section
variable {fr tzz o l n tn : Int} {P : Nat → Pm} {len : Nat}
end
theorem sep7 {w : World} {i : Nat} {v0 v1 v2 v3 v4 v5 v6 : Value} {t : TypeId} (h : w.heap[i]? = some (.cells #[v0, v1, v2, v3, v4, v5, v6] t (0, 0))) : w.cell? ⟨i, 0, none⟩ = some v0 ∧ w.cell? ⟨i, 1, none⟩ = some v1 ∧ w.cell? ⟨i, 2, none⟩ = some v2 ∧ w.cell? ⟨i, 3, none⟩ = some v3 ∧ w.cell? ⟨i, 4, none⟩ = some v4 ∧ w.cell? ⟨i, 5, none⟩ = some v5 ∧ w.cell? ⟨i, 6, none⟩ = some v6 :=
  ⟨by simp [World.cell?, h], by simp [World.cell?, h], by simp [World.cell?, h], by simp [World.cell?, h], by simp [World.cell?, h], by simp [World.cell?, h], by simp [World.cell?, h]⟩
end Go.Proofs.Ytoabncoigleiaaa
namespace Go.Proofs.Ytoabncoigleiaaa
open Go.RowKit
set_option linter.unusedVariables false
end Go.Proofs.Ytoabncoigleiaaa
namespace Go.Proofs.Ytoabncoigleiaaa
open Go.RowKit
set_option linter.unusedVariables false
end Go.Proofs.Ytoabncoigleiaaa

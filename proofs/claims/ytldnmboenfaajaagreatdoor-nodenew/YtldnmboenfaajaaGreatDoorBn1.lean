/-
  Bytes that a call owns: what they are as text, and small laws on rows of bytes that the walks of this seat share.
  Memory that a call has made: which blocks a step may turn (Keeps), a writer in its block (IsW), and what an append to it leaves.
  Plain mathematics: the order of keys, trees of rows, what Put makes of them.
  Memory of trees: blocks of one type that stay, a counter of joins, summaries.
  Small facts on blocks of two cells (sums), on frames, and entries as plain data.
  The table of lanes in memory; one word mixed into both lanes.
  Arguments of these laws, from their reading to plain numbers, texts, sums and entries; the table of lanes, from the row's list.
  What == says of two sums.
  Tallies: their three cells, what == says of two, and of sums within them.
  Memory of a store's tree: a meter that counts, tallies of three cells, entries of five.
  How often the join is called.
  Plain mathematics: the way down to a key, and the way back up with a row.
  Plain mathematics: a tree's n-th row, what a node holds, folds of rows by their numbers.
  Plain mathematics: a tree's rows as a sorted list, and what Put, Get, Rank, At and Fold are of it.
  Plain mathematics: trees that Put has made.
  The words of a key and a version, plain, and what both lanes come to.
  Lists of entries by rising keys.
  Plain mathematics of stores: entries by rising keys, what is put, found, counted and summed up.
  Trees in memory (E): nodes and what they hold, rows and levels.
  Add and Less of the code and of the document: lane by lane, modulo 2^64.
  Join of the code and of the document: counts added, wrapping round; sums added lane by lane.
  Meters: a new one, its Join, how often it did.
  both (E): it joins by the meter; what it defers does nothing where the join returns.
  hang (E): a node of a row and two trees.
  hang (E), a case.
  hang (E), a case.
  hang (E), a case.
  hang (E), a case.
  hang (E).
  What a function that is handed a row has laid (E).
  turnRight (E), case A.
  turnRight (E), case B.
  turnLeft (E), case A.
  turnLeft (E), case B.
  level (E).
  down (E): the way to a key.
  slices.Backward over nodes (E).
  A region that draws its order inside a round of a range over a function: by the walk that holds a set of facts.
  An entry's five cells, set at once.
  Put (E): what it lays.
  Put (E).
  Put (E).
  Put (E), whole.
-/
import Derived.Test.YtldnmboenfaajaaGreatDoorProg
import Derived.WalkKit
import Derived.WalkSpells
import Derived.WalkLawsBesides
import Derived.OwnWalk
import Derived.Lib.UnsafeStr
import Derived.Laws.IdiomStrings
import Derived.Deep.AppendLies
import Derived.KernelRfl
import Derived.Below
import Derived.Laws.Rows
import Derived.Test.YtldnmboenfaajaaGreatDoorRows
import Derived.ProofKit
import Derived.OpenShut
import Derived.ShutString
import Derived.SizedLaws
import Derived.HandedShaped
import Derived.Lib.SmallJoins
import Derived.Deep.Slices
import Derived.Deep.Strs
import Derived.Deep.CondSized
import Derived.ChangeOld
import Derived.LaidLaws
import Derived.FnData
import Derived.Laws.Tables
import Derived.Laws.Cover2
import Derived.Deep.RegionHeld
import Derived.OrdersHeld
import Derived.Defers
import Derived.Recover
import Derived.Deep.RegionWith
import Derived.Deep.RegionHeld3
import Derived.Deep.LoopGhost
import Derived.WalkMore
import Derived.RangeFuncNested
import Derived.RangeFuncBound
import Derived.RangeFuncCalls
import Derived.RangeFuncLeaves
import Derived.RangeFuncWrites
import Derived.Shelf.Abstract
import Derived.Shelf.RegionOpen
import Derived.OwnWalkIn
import Derived.TacticsInMore
import Derived.LoopNIn
import Derived.LoopIn
import Derived.Stop.RegionWithIn
import Derived.OrdersIn
namespace Go.Proofs.YtldnmboenfaajaaGreatDoor
open Go.RowKit
/-- A fact put aside: the walk does not look behind the name. -/
theorem aside {p : Prop} (h : p) : Hid p := h
end Go.Proofs.YtldnmboenfaajaaGreatDoor
namespace Go.Proofs.YtldnmboenfaajaaGreatDoor
open Go.RowKit
/-- Of the blocks that were there only those in S may have turned; streams as they were; no block has gone. -/
structure Keeps (S : Nat → Prop) (w w' : World) : Prop where
  os : w'.os = w.os
  tape : w'.tape = w.tape
  output : w'.output = w.output
  size : w.heap.size ≤ w'.heap.size
  block : ∀ k, k < w.heap.size → ¬ S k → w'.heap[k]? = w.heap[k]?
theorem Keeps.refl (S : Nat → Prop) (w : World) : Keeps S w w := ⟨rfl, rfl, rfl, Nat.le_refl _, fun _ _ _ => rfl⟩
theorem Keeps.trans {S : Nat → Prop} {a b c : World} (h : Keeps S a b) (k : Keeps S b c) : Keeps S a c :=
  ⟨k.os.trans h.os, k.tape.trans h.tape, k.output.trans h.output, Nat.le_trans h.size k.size, fun i hi hs => (k.block i (Nat.lt_of_lt_of_le hi h.size) hs).trans (h.block i hi hs)⟩
theorem Keeps.setCell {S : Nat → Prop} {a w : World} (h : Keeps S a w) {p : Addr} (hp : p.block < a.heap.size → S p.block) (u : Value) : Keeps S a (w.setCell p u) :=
  ⟨h.os, h.tape, h.output, Nat.le_trans h.size (by simp [World.setCell]), fun k hk hs => by
    have hne : k ≠ p.block := fun e => by subst e; exact hs (hp hk)
    rw [Below.heap_setCell _ _ _ _ hne]
    exact h.block k hk hs⟩
theorem Keeps.below {S : Nat → Prop} {w w' : World} (h : Keeps S w w') {B : Nat} (hB : B ≤ w.heap.size) (hS : ∀ k, k < B → ¬ S k) : Below B w w' :=
  ⟨h.os, h.tape, h.output, h.size, fun k hk => h.block k (Nat.lt_of_lt_of_le hk hB) (hS k hk)⟩
theorem Keeps.of_below {w w' : World} (h : Below w.heap.size w w') (S : Nat → Prop) : Keeps S w w' :=
  ⟨h.os, h.tape, h.output, h.size, fun k hk _ => h.block k hk⟩
theorem ownsRow_keep {S : Nat → Prop} {w w' : World} {base : Nat} {e : TypeId} {size : Nat} {v : Value} {n : Nat} {xs : List Value} (h : w.ownsRow base e size v n xs) (k : Keeps S w w') (hv : ∀ j, v.ownBlock = some j → ¬ S j) : w'.ownsRow base e size v n xs := by
  refine ⟨h.1, ?_⟩
  rcases h.2 with hn | ⟨g, cap, cur, rfl, hb, hg, r⟩
  · exact .inl hn
  · refine .inr ⟨g, cap, cur, rfl, hb, ?_, r⟩
    rw [k.block g (Array.getElem?_eq_some_iff.1 hg).1 (hv g rfl)]
    exact hg
theorem cell_one {w : World} {T b : Nat} {v : Value} (hh : w.heap[b]? = some (.cells #[v] T (0, 0))) : w.cell? ⟨b, 0, none⟩ = some v := by
  rw [cell_of_row w b 0 _ _ _ hh]; rfl
theorem frozen_one {w : World} {T b : Nat} {v : Value} (hh : w.heap[b]? = some (.cells #[v] T (0, 0))) : w.frozen? ⟨b, 0, none⟩ = false := frozen_of_row w b 0 _ _ hh
end Go.Proofs.YtldnmboenfaajaaGreatDoor
namespace Go.Proofs.YtldnmboenfaajaaGreatDoor
open Go.RowKit
theorem L_irrefl : ∀ x : List UInt8, Op.bytesLess x x = false
  | [] => rfl
  | a :: x => by simp [Op.bytesLess, L_irrefl x]
theorem L_total : ∀ x y : List UInt8, Op.bytesLess x y = false → Op.bytesLess y x = false → x = y
  | [], [], _, _ => rfl
  | [], _ :: _, h, _ => by simp [Op.bytesLess] at h
  | _ :: _, [], _, h => by simp [Op.bytesLess] at h
  | a :: x, b :: y, h1, h2 => by
    simp only [Op.bytesLess, Bool.or_eq_false_iff, decide_eq_false_iff_not, Bool.and_eq_false_iff] at h1 h2
    have e : a = b := by
      have g1 := h1.1; have g2 := h2.1
      simp only [UInt8.lt_iff_toNat_lt] at g1 g2
      exact UInt8.toNat_inj.1 (by omega)
    subst e
    rw [L_total x y (by simpa using h1.2) (by simpa using h2.2)]
theorem L_trans : ∀ x y z : List UInt8, Op.bytesLess x y = true → Op.bytesLess y z = true → Op.bytesLess x z = true
  | _, _, [], _, h => by cases ‹List UInt8› <;> simp [Op.bytesLess] at h
  | _, [], _ :: _, h, _ => by cases ‹List UInt8› <;> simp [Op.bytesLess] at h
  | [], _ :: _, _ :: _, _, _ => by simp [Op.bytesLess]
  | a :: x, b :: y, c :: z, h1, h2 => by
    simp only [Op.bytesLess, Bool.or_eq_true, decide_eq_true_eq, Bool.and_eq_true, beq_iff_eq, UInt8.lt_iff_toNat_lt] at h1 h2 ⊢
    rcases h1 with h1 | ⟨rfl, h1⟩
    · rcases h2 with h2 | ⟨rfl, h2⟩
      · exact .inl (by omega)
      · exact .inl h1
    · rcases h2 with h2 | ⟨rfl, h2⟩
      · exact .inl h2
      · exact .inr ⟨rfl, L_trans x y z h1 h2⟩
theorem toList_inj {a b : ByteArray} (h : a.toList = b.toList) : a = b := by
  rw [ByteArray.toList_eq, ByteArray.toList_eq] at h
  cases a; cases b
  simp only [ByteArray.mk.injEq]
  exact Array.toList_inj.1 h
/-- A key is lower than another. -/
def kLt (a b : ByteArray) : Bool := Op.bytesLess a.toList b.toList
theorem kLt_irrefl (a : ByteArray) : kLt a a = false := L_irrefl _
theorem kLt_trans {a b c : ByteArray} (h : kLt a b = true) (k : kLt b c = true) : kLt a c = true := L_trans _ _ _ h k
theorem kLt_asymm {a b : ByteArray} (h : kLt a b = true) : kLt b a = false := by
  cases k : kLt b a
  · rfl
  · have := kLt_trans h k; rw [kLt_irrefl] at this; cases this
theorem kLt_total {a b : ByteArray} (h : kLt a b = false) (k : kLt b a = false) : a = b := toList_inj (L_total _ _ h k)
theorem kLt_trans_le {a b c : ByteArray} (h : kLt a b = true) (k : kLt c b = false) : kLt a c = true := by
  cases h2 : kLt b c
  · rw [kLt_total k h2]; exact h
  · exact kLt_trans h h2
/-- A row. -/
structure Rw (β α : Type) where
  k : ByteArray
  v : β
  s : α
/-- A tree of rows. -/
inductive Tr (β α : Type) where
  | nil : Tr β α
  | node (l : Tr β α) (k : ByteArray) (v : β) (s : α) (r : Tr β α) : Tr β α
namespace Tr
variable {β α : Type}
def isNil : Tr β α → Bool
  | nil => true
  | node .. => false
def cnt : Tr β α → Nat
  | nil => 0
  | node l _ _ _ r => l.cnt + 1 + r.cnt
def ht : Tr β α → Nat
  | nil => 0
  | node l _ _ _ r => max l.ht r.ht + 1
/-- How much a tree holds: its rows, and what their summaries take. -/
def wt (z : α → Nat) : Tr β α → Nat
  | nil => 0
  | node l _ _ s r => l.wt z + 1 + z s + r.wt z
/-- The sum that a node keeps. -/
def sum (J : α → α → α) (e : α) : Tr β α → α
  | nil => e
  | node l _ _ s r =>
    if r.isNil then (if l.isNil then s else J (l.sum J e) s) else J (if l.isNil then s else J (l.sum J e) s) (r.sum J e)
def rows : Tr β α → List (Rw β α)
  | nil => []
  | node l k v s r => l.rows ++ ⟨k, v, s⟩ :: r.rows
theorem rows_length : ∀ t : Tr β α, t.rows.length = t.cnt
  | nil => rfl
  | node l k v s r => by simp [rows, cnt, rows_length l, rows_length r]; omega
theorem cnt_le_wt (z : α → Nat) : ∀ t : Tr β α, t.cnt ≤ t.wt z
  | nil => Nat.le_refl _
  | node l k v s r => by have := cnt_le_wt z l; have := cnt_le_wt z r; simp only [wt, cnt]; omega
/-- A node turned to the right. -/
def turnR (k : ByteArray) (v : β) (s : α) (l r : Tr β α) : Tr β α :=
  match l with
  | nil => node nil k v s r
  | node ll lk lv ls lr =>
    if lr.ht ≤ ll.ht then node ll lk lv ls (node lr k v s r) else
      match lr with
      | nil => node (node ll lk lv ls nil) k v s r
      | node a ik iv is b => node (node ll lk lv ls a) ik iv is (node b k v s r)
def turnL (k : ByteArray) (v : β) (s : α) (l r : Tr β α) : Tr β α :=
  match r with
  | nil => node l k v s nil
  | node rl rk rv rs rr =>
    if rl.ht ≤ rr.ht then node (node l k v s rl) rk rv rs rr else
      match rl with
      | nil => node l k v s (node nil rk rv rs rr)
      | node a ik iv is b => node (node l k v s a) ik iv is (node b rk rv rs rr)
def level (k : ByteArray) (v : β) (s : α) (l r : Tr β α) : Tr β α :=
  if l.ht = r.ht + 2 then turnR k v s l r else if r.ht = l.ht + 2 then turnL k v s l r else node l k v s r
/-- At each node the sides' heights differ by at most one. -/
def bal : Tr β α → Prop
  | nil => True
  | node l _ _ _ r => l.bal ∧ r.bal ∧ l.ht ≤ r.ht + 1 ∧ r.ht ≤ l.ht + 1
def put (k : ByteArray) (v : β) (s : α) : Tr β α → Tr β α
  | nil => node nil k v s nil
  | node l k' v' s' r =>
    if kLt k k' then level k' v' s' (put k v s l) r else if kLt k' k then level k' v' s' l (put k v s r) else node l k v s r
theorem bal_cnt : ∀ t : Tr β α, t.bal → 2 ^ (t.ht / 2) ≤ t.cnt + 1
  | nil, _ => by simp [ht, cnt]
  | node l k v s r, h => by
    obtain ⟨hl, hr, h1, h2⟩ := h
    have a := bal_cnt l hl
    have b := bal_cnt r hr
    simp only [ht, cnt]
    by_cases h0 : max l.ht r.ht = 0
    · rw [h0]; simp
    · have e : (max l.ht r.ht + 1) / 2 = (max l.ht r.ht - 1) / 2 + 1 := by omega
      rw [e, Nat.pow_succ]
      have c : 2 ^ ((max l.ht r.ht - 1) / 2) ≤ 2 ^ (l.ht / 2) := Nat.pow_le_pow_right (by omega) (by omega)
      have d : 2 ^ ((max l.ht r.ht - 1) / 2) ≤ 2 ^ (r.ht / 2) := Nat.pow_le_pow_right (by omega) (by omega)
      omega
theorem bal_ht {t : Tr β α} (h : t.bal) {n : Nat} (hn : t.cnt + 1 ≤ 2 ^ n) : t.ht ≤ 2 * n + 1 := by
  have := bal_cnt t h
  have h2 : t.ht / 2 ≤ n := by
    by_cases g : t.ht / 2 ≤ n
    · exact g
    · have : 2 ^ (n + 1) ≤ 2 ^ (t.ht / 2) := Nat.pow_le_pow_right (by omega) (by omega)
      rw [Nat.pow_succ] at this
      have := Nat.one_le_two_pow (n := n)
      omega
  omega
end Tr
end Go.Proofs.YtldnmboenfaajaaGreatDoor
namespace Go.Proofs.YtldnmboenfaajaaGreatDoor
open Go.RowKit
set_option linter.unusedVariables false
theorem bthen {w w1 w2 : World} (h : Below w.heap.size w w1) (h2 : Below w1.heap.size w1 w2) : Below w.heap.size w w2 := h.trans (h2.mono h.size)
theorem bnew (w : World) (o : Obj) : Below w.heap.size w (w.alloc o) := (Below.refl _ w).alloc (Nat.le_refl _) _
theorem blk_on {w w' : World} {i : Nat} {o : Obj} (h : w.heap[i]? = some o) (b : Below w.heap.size w w') : w'.heap[i]? = some o := (b.block i (Array.getElem?_eq_some_iff.1 h).1).trans h
theorem lt_of_blk {w : World} {i : Nat} {o : Obj} (h : w.heap[i]? = some o) : i < w.heap.size := (Array.getElem?_eq_some_iff.1 h).1
theorem blk_keep {S : Nat → Prop} {w w' : World} {i : Nat} {o : Obj} (h : w.heap[i]? = some o) (k : Keeps S w w') (hn : ¬ S i) : w'.heap[i]? = some o := (k.block i (lt_of_blk h) hn).trans h
/-- Blocks of the type T stay as they are. -/
def Stay (T : TypeId) (w w' : World) : Prop := ∀ (b : Nat) (cs : Array Value), w.heap[b]? = some (.cells cs T (0, 0)) → w'.heap[b]? = some (.cells cs T (0, 0))
theorem Stay.refl (T : TypeId) (w : World) : Stay T w w := fun _ _ h => h
theorem Stay.trans {T : TypeId} {a b c : World} (h : Stay T a b) (k : Stay T b c) : Stay T a c := fun _ _ e => k _ _ (h _ _ e)
theorem Stay.drew {T : TypeId} {a b : World} (h : Stay T a b) : Stay T a b.drew := fun _ _ e => h _ _ e
theorem Stay.alloc {T : TypeId} {a b : World} (h : Stay T a b) (o : Obj) : Stay T a (b.alloc o) := fun _ _ e => blk_on (h _ _ e) (bnew _ _)
theorem Stay.setCell {T : TypeId} {a b : World} (h : Stay T a b) {p : Addr} (u : Value) (hp : ∀ cs, b.heap[p.block]? ≠ some (.cells cs T (0, 0))) : Stay T a (b.setCell p u) := fun i _ e => by
  rw [heap_setCell_other]
  · exact h _ _ e
  · rintro rfl; exact hp _ (h _ _ e)
theorem Stay.keeps {T : TypeId} {S : Nat → Prop} {a b c : World} (h : Stay T a b) (k : Keeps S b c) (hS : ∀ i cs, b.heap[i]? = some (.cells cs T (0, 0)) → ¬ S i) : Stay T a c := fun i _ e => blk_keep (h _ _ e) k (hS _ _ (h _ _ e))
theorem Stay.grown {T : TypeId} {a b c : World} {row : Option Nat} (h : Stay T a b) (hg : b.grownBy c row) (hrow : ∀ r, row = some r → ∀ cs, b.heap[r]? ≠ some (.cells cs T (0, 0))) : Stay T a c := fun i _ e => by
  have e1 := h _ _ e
  rw [hg.block i (lt_of_blk e1) (fun e2 => hrow i e2.symm _ e1)]
  exact e1
theorem str_gtr {a b : ByteArray} {q : Bool} (h : (!(Op.bytesLess a.toList b.toList || a.toList == b.toList)) = q) : binOp .gtr 9 (.string a) (.string b) = pure (.bool q) := by
  simp only [binOp, Op.stringOp, h]
theorem kLt_same {a b : ByteArray} (h : kLt a b = false) (k : kLt b a = false) : (!(Op.bytesLess a.toList b.toList || a.toList == b.toList)) = false := by
  rw [kLt_total h k]; simp
theorem kLt_over {a b : ByteArray} (h : kLt b a = true) : (!(Op.bytesLess a.toList b.toList || a.toList == b.toList)) = true := by
  have h1 := kLt_asymm h
  have h2 : a.toList ≠ b.toList := fun e => by rw [toList_inj e, kLt_irrefl] at h; cases h
  unfold kLt at h1
  simp [h1, h2]
/-- A Map. -/
structure Mp where
  A : UInt64
  B : UInt64
def Mp.a (m : Mp) : Int := (m.A.toNat : Int)
def Mp.b (m : Mp) : Int := (m.B.toNat : Int)
end Go.Proofs.YtldnmboenfaajaaGreatDoor
namespace Go.Proofs.YtldnmboenfaajaaGreatDoor
open Go.RowKit
set_option linter.unusedVariables false
/-- An entry, plain. -/
structure En where
  k : ByteArray
  c : Int
  n : Int
  v : ByteArray
  d : Bool
theorem cell_in {W W' : World} {p : Addr} {v : Value} (h : W.cell? p = some v) (b : Below W.heap.size W W') : W'.cell? p = some v :=
  (World.cell?_of_block (w := W) (b.block p.block (World.block_lt_of_cell? W _ h))).trans h
/-- What is kept of the world in a loop over a sum's two elements: own blocks from n on. -/
structure Two (w wr : World) (i : Nat) (a b : Int) : Prop where
  below : Below w.heap.size w wr
  low : w.heap.size ≤ i
  blk : wr.heap[i]? = some (.cells #[.int .u64 a, .int .u64 b] 126 (0, 0))
end Go.Proofs.YtldnmboenfaajaaGreatDoor
namespace Go.Proofs.YtldnmboenfaajaaGreatDoor
open Go.RowKit
set_option linter.unusedVariables false
/-- One word mixed into a lane. -/
def mixI (f : Int) (s : Nat) (x u : Int) : Int :=
  bits .xor .u64 (IntKind.u64.wrap (bits .xor .u64 x u * f)) (IntKind.u64.wrap (bits .xor .u64 x u * f) / 2 ^ s)
end Go.Proofs.YtldnmboenfaajaaGreatDoor
namespace Go.Proofs.YtldnmboenfaajaaGreatDoor
open Go.ChangeShapes Go.WideShapes Go.ChangeAt Go.RowKit
set_option linter.unusedVariables false
theorem own : ownKnob Tryz.prog.godebug = none := by kernel_rfl
theorem laidOut : laidOutB Tryz.prog = true := by kernel_rfl
variable {H : Type} {enc : TypeId × Value → H} {W : World}
end Go.Proofs.YtldnmboenfaajaaGreatDoor
namespace Go.Proofs.YtldnmboenfaajaaGreatDoor
open Go.RowKit
end Go.Proofs.YtldnmboenfaajaaGreatDoor
namespace Go.Proofs.YtldnmboenfaajaaGreatDoor
open Go.RowKit
set_option linter.unusedVariables false
/-- The three cells of a tally's block. -/
theorem tri {w : World} {i : Nat} {a b c : Value} {T : TypeId} (h : w.heap[i]? = some (.cells #[a, b, c] T (0, 0))) :
    w.cell? ⟨i, 0, none⟩ = some a ∧ w.cell? ⟨i, 1, none⟩ = some b ∧ w.cell? ⟨i, 2, none⟩ = some c ∧ w.frozen? ⟨i, 0, none⟩ = false ∧ w.frozen? ⟨i, 1, none⟩ = false ∧ w.frozen? ⟨i, 2, none⟩ = false :=
  ⟨by simp [World.cell?, h], by simp [World.cell?, h], by simp [World.cell?, h], frozen_of_row w i 0 _ _ h, frozen_of_row w i 1 _ _ h, frozen_of_row w i 2 _ _ h⟩
end Go.Proofs.YtldnmboenfaajaaGreatDoor
namespace Go.Proofs.YtldnmboenfaajaaGreatDoor
open Go.RowKit
set_option linter.unusedVariables false
/-- How often a join was called: the meter in the block c says so. -/
def CntE (c : Option Nat) (n : Nat) (w : World) : Prop := ∀ b : Nat, c = some b → w.heap[b]? = some (.cells #[.int .i64 (IntKind.i64.wrap (n : Int))] 158 (0, 0))
theorem CntE.keep {S : Nat → Prop} {c : Option Nat} {n : Nat} {w w' : World} (h : CntE c n w) (k : Keeps S w w') (hS : ∀ b, c = some b → ¬ S b) : CntE c n w' := fun b e => blk_keep (h b e) k (hS b e)
theorem CntE.below {c : Option Nat} {n : Nat} {w w' : World} (h : CntE c n w) (k : Below w.heap.size w w') : CntE c n w' := fun b e => blk_on (h b e) k
/-- A tally. -/
structure Tl where
  N : Int64
  A : UInt64
  B : UInt64
def Tl.n (t : Tl) : Int := t.N.toInt
def Tl.a (t : Tl) : Int := (t.A.toNat : Int)
def Tl.b (t : Tl) : Int := (t.B.toNat : Int)
def tZero : Tl := ⟨0, 0, 0⟩
def tJoin (f g : Tl) : Tl := ⟨f.N + g.N, f.A + g.A, f.B + g.B⟩
/-- What a tally takes beside its row: nothing that is counted. -/
def tSz (_ : Tl) : Nat := 0
/-- The five cells of an entry's block. -/
theorem penta {w : World} {i : Nat} {a b c d e : Value} {T : TypeId} (h : w.heap[i]? = some (.cells #[a, b, c, d, e] T (0, 0))) :
    w.cell? ⟨i, 0, none⟩ = some a ∧ w.cell? ⟨i, 1, none⟩ = some b ∧ w.cell? ⟨i, 2, none⟩ = some c ∧ w.cell? ⟨i, 3, none⟩ = some d ∧ w.cell? ⟨i, 4, none⟩ = some e ∧ w.frozen? ⟨i, 0, none⟩ = false ∧ w.frozen? ⟨i, 1, none⟩ = false ∧ w.frozen? ⟨i, 2, none⟩ = false ∧ w.frozen? ⟨i, 3, none⟩ = false ∧ w.frozen? ⟨i, 4, none⟩ = false :=
  ⟨by simp [World.cell?, h], by simp [World.cell?, h], by simp [World.cell?, h], by simp [World.cell?, h], by simp [World.cell?, h], frozen_of_row w i 0 _ _ h, frozen_of_row w i 1 _ _ h, frozen_of_row w i 2 _ _ h, frozen_of_row w i 3 _ _ h, frozen_of_row w i 4 _ _ h⟩
end Go.Proofs.YtldnmboenfaajaaGreatDoor
namespace Go.Proofs.YtldnmboenfaajaaGreatDoor
open Go.RowKit
set_option linter.unusedVariables false
namespace Tr
variable {β α : Type}
end Tr
end Go.Proofs.YtldnmboenfaajaaGreatDoor
namespace Go.Proofs.YtldnmboenfaajaaGreatDoor
open Go.RowKit
set_option linter.unusedVariables false
namespace Tr
variable {β α : Type}
/-- The trees on the way down to k, without the last one. -/
def path (k : ByteArray) : Tr β α → List (Tr β α)
  | nil => []
  | node l k' v s r => if kLt k k' then node l k' v s r :: path k l else if kLt k' k then node l k' v s r :: path k r else []
/-- The tree at the end of the way. -/
def found (k : ByteArray) : Tr β α → Tr β α
  | nil => nil
  | node l k' v s r => if kLt k k' then found k l else if kLt k' k then found k r else node l k' v s r
/-- How many rows have a lower key. -/
def lower (k : ByteArray) : Tr β α → Nat
  | nil => 0
  | node l k' v s r => if kLt k k' then lower k l else if kLt k' k then l.cnt + 1 + lower k r else l.cnt
/-- What the row becomes at the end of the way. -/
def base (k : ByteArray) (v : β) (s : α) (t : Tr β α) : Tr β α :=
  match t with
  | nil => node nil k v s nil
  | node l _ _ _ r => node l k v s r
/-- One step back up. -/
def step (k : ByteArray) (t made : Tr β α) : Tr β α :=
  match t with
  | nil => made
  | node l k' v' s' r => if kLt k k' then level k' v' s' made r else level k' v' s' l made
end Tr
end Go.Proofs.YtldnmboenfaajaaGreatDoor
namespace Go.Proofs.YtldnmboenfaajaaGreatDoor
open Go.RowKit
set_option linter.unusedVariables false
namespace Tr
variable {β α : Type}
def key : Tr β α → ByteArray
  | nil => ⟨#[]⟩
  | node _ k _ _ _ => k
end Tr
end Go.Proofs.YtldnmboenfaajaaGreatDoor
namespace Go.Proofs.YtldnmboenfaajaaGreatDoor
open Go.RowKit
set_option linter.unusedVariables false
variable {β α : Type}
/-- Keys rise. -/
def Rises (l : List (Rw β α)) : Prop := l.Pairwise (fun a b => kLt a.k b.k = true)
theorem rises_parts {A B : List (Rw β α)} {y : Rw β α} (h : Rises (A ++ y :: B)) : Rises A ∧ Rises B ∧ (∀ a ∈ A, kLt a.k y.k = true) ∧ (∀ b ∈ B, kLt y.k b.k = true) ∧ (∀ a ∈ A, ∀ b ∈ B, kLt a.k b.k = true) := by
  unfold Rises at *
  rw [List.pairwise_append, List.pairwise_cons] at h
  exact ⟨h.1, h.2.1.2, fun a ha => h.2.2 a ha y List.mem_cons_self, h.2.1.1, fun a ha b hb => h.2.2 a ha b (List.mem_cons_of_mem _ hb)⟩
/-- The row of a key. -/
def look (k : ByteArray) (l : List (Rw β α)) : Option (Rw β α) := l.find? (fun y => !kLt k y.k && !kLt y.k k)
/-- How many rows have a lower key. -/
def rankL (k : ByteArray) (l : List (Rw β α)) : Nat := (l.filter (fun y => kLt y.k k)).length
theorem rank_all {k : ByteArray} : ∀ {l : List (Rw β α)}, (∀ y ∈ l, kLt y.k k = true) → rankL k l = l.length
  | [], _ => rfl
  | y :: l, h => by
    have := rank_all (l := l) (fun x hx => h x (List.mem_cons_of_mem _ hx))
    unfold rankL at *
    rw [List.filter_cons_of_pos (by simpa using h y List.mem_cons_self)]
    simp [this]
theorem rank_none {k : ByteArray} {l : List (Rw β α)} (h : ∀ y ∈ l, kLt y.k k = false) : rankL k l = 0 := by
  unfold rankL
  rw [List.filter_eq_nil_iff.2 (fun y hy => by simp [h y hy])]
  rfl
theorem rank_append (k : ByteArray) (A B : List (Rw β α)) : rankL k (A ++ B) = rankL k A + rankL k B := by
  unfold rankL; rw [List.filter_append, List.length_append]
theorem rank_cons (k : ByteArray) (y : Rw β α) (B : List (Rw β α)) : rankL k (y :: B) = (if kLt y.k k then 1 else 0) + rankL k B := by
  unfold rankL; rw [List.filter_cons]; split <;> simp <;> omega
theorem lower_rank (k : ByteArray) : ∀ t : Tr β α, Rises t.rows → Tr.lower k t = rankL k t.rows
  | .nil, _ => rfl
  | .node l k' v' s' r, h => by
    obtain ⟨h1, h2, h3, h4, _⟩ := rises_parts h
    have il := lower_rank k l h1
    have ir := lower_rank k r h2
    simp only [Tr.lower, Tr.rows]
    rw [rank_append, rank_cons]
    cases q1 : kLt k k'
    · cases q2 : kLt k' k
      · have e : k = k' := kLt_total q1 q2
        rw [rank_all (fun y hy => by rw [e]; exact h3 y hy), rank_none (fun y hy => by rw [e]; exact kLt_asymm (h4 y hy)), Tr.rows_length]
        simp
      · rw [rank_all (fun y hy => kLt_trans (h3 y hy) q2), Tr.rows_length, ir]
        simp
        omega
    · rw [rank_none (l := r.rows) (fun y hy => kLt_asymm (kLt_trans q1 (h4 y hy))), kLt_asymm q1, il]
      simp
/-- The rows from i on below j. -/
def seg (l : List (Rw β α)) (i j : Nat) : List (Rw β α) := (l.take j).drop i
end Go.Proofs.YtldnmboenfaajaaGreatDoor
namespace Go.Proofs.YtldnmboenfaajaaGreatDoor
open Go.RowKit
set_option linter.unusedVariables false
variable {β α : Type}
/-- Balanced, rising, and holding no more than m. -/
structure Gd (z : α → Nat) (t : Tr β α) (m : Nat) : Prop where
  bal : t.bal
  rises : Rises t.rows
  wt : t.wt z ≤ m
theorem Gd.cnt {z : α → Nat} {t : Tr β α} {m : Nat} (h : Gd z t m) : t.cnt ≤ m := Nat.le_trans (Tr.cnt_le_wt z t) h.wt
theorem Gd.ht {z : α → Nat} {t : Tr β α} {m : Nat} (h : Gd z t m) (hm : m ≤ 281474976710655) : t.ht ≤ 97 := Tr.bal_ht h.bal (n := 48) (by have := h.cnt; omega)
end Go.Proofs.YtldnmboenfaajaaGreatDoor
namespace Go.Proofs.YtldnmboenfaajaaGreatDoor
set_option linter.unusedVariables false
/-- Bytes as a number, the first byte the lowest one. -/
def leB : List UInt8 → Nat
  | [] => 0
  | b :: r => b.toNat + 256 * leB r
/-- The word that begins at byte m. -/
def wordN (k : List UInt8) (m : Nat) : Nat := leB ((k.drop m).take 8)
/-- The first j words of a key. -/
def keyW (k : List UInt8) (j : Nat) : List Int := (List.range j).map fun m => (wordN k (8 * m) : Int)
/-- How many words a key has. -/
def keyN (n : Nat) : Nat := (n + 7) / 8
/-- All words of a key and a version. -/
def wordsI (k : ByteArray) (c n : Int) : List Int := (k.size : Int) :: keyW k.data.toList (keyN k.size) ++ [IntKind.u64.wrap c, IntKind.u64.wrap n]
def lane0 (ws : List Int) : Int := ws.foldl (mixI 11400714819323198485 29) 2611923443488327891
def lane1 (ws : List Int) : Int := ws.foldl (mixI 14029467366897019727 32) 1376283091369227076
/-- What an entry comes to, lane by lane. -/
def of0 (k : ByteArray) (c n : Int) : Int := lane0 (wordsI k c n)
def of1 (k : ByteArray) (c n : Int) : Int := lane1 (wordsI k c n)
end Go.Proofs.YtldnmboenfaajaaGreatDoor
namespace Go.Proofs.YtldnmboenfaajaaGreatDoor
open Go.RowKit
set_option linter.unusedVariables false
/-- Keys rise. -/
def RisesE (l : List En) : Prop := l.Pairwise (fun a b => kLt a.k b.k = true)
end Go.Proofs.YtldnmboenfaajaaGreatDoor
namespace Go.Proofs.YtldnmboenfaajaaGreatDoor
open Go.RowKit
set_option linter.unusedVariables false
/-- What an entry comes to. -/
def tof (e : En) : Tl := ⟨1, UInt64.ofNat (of0 e.k e.c e.n).toNat, UInt64.ofNat (of1 e.k e.c e.n).toNat⟩
/-- The row of an entry. -/
def rwE (e : En) : Rw En Tl := ⟨e.k, e, tof e⟩
/-- How many keys are below one. -/
def belE (k : ByteArray) (l : List En) : Nat := (l.filter (fun y => kLt y.k k)).length
theorem rises_map {l : List En} (h : RisesE l) : Rises (l.map rwE) := by
  unfold Rises RisesE at *
  rw [List.pairwise_map]
  exact h
theorem rank_map (k : ByteArray) (l : List En) : rankL k (l.map rwE) = belE k l := by
  unfold rankL belE
  rw [List.filter_map, List.length_map]
  rfl
theorem seg_map (l : List En) (i j : Nat) : seg (l.map rwE) i j = ((l.take j).drop i).map rwE := by
  unfold seg
  rw [← List.map_take, ← List.map_drop]
/-- The tree T holds the entries L. -/
structure Hol (T : Tr En Tl) (L : List En) : Prop where
  bal : T.bal
  rows : T.rows = L.map rwE
  rises : RisesE L
theorem wt_cnt : ∀ T : Tr En Tl, T.wt tSz = T.cnt
  | .nil => rfl
  | .node l k v s r => by simp only [Tr.wt, Tr.cnt, wt_cnt l, wt_cnt r, tSz]
theorem Hol.nil : Hol .nil [] := ⟨trivial, rfl, List.Pairwise.nil⟩
theorem Hol.cnt {T : Tr En Tl} {L : List En} (h : Hol T L) : T.cnt = L.length := by rw [← Tr.rows_length, h.rows, List.length_map]
theorem Hol.gd {T : Tr En Tl} {L : List En} (h : Hol T L) : Gd tSz T L.length :=
  ⟨h.bal, by rw [h.rows]; exact rises_map h.rises, by rw [wt_cnt, h.cnt]; exact Nat.le_refl _⟩
theorem Hol.lower {T : Tr En Tl} {L : List En} (h : Hol T L) (k : ByteArray) : Tr.lower k T = belE k L := by
  rw [lower_rank k T h.gd.rises, h.rows, rank_map]
theorem belE_le (k : ByteArray) (L : List En) : belE k L ≤ L.length := List.length_filter_le _ _
/-- The keys below one are the first. -/
theorem filter_low {k : ByteArray} : ∀ {L : List En}, RisesE L → L.filter (fun y => kLt y.k k) = L.take (belE k L)
  | [], _ => rfl
  | y :: L, h => by
    unfold RisesE at h
    rw [List.pairwise_cons] at h
    cases hq : kLt y.k k
    · have hn : (y :: L).filter (fun y => kLt y.k k) = [] := by
        rw [List.filter_eq_nil_iff]
        intro x hx
        rcases List.mem_cons.1 hx with rfl | hx
        · simp [hq]
        · cases hq2 : kLt x.k k
          · simp
          · have := kLt_trans (h.1 x hx) hq2
            rw [hq] at this; cases this
      unfold belE
      rw [hn]
      rfl
    · have ih := filter_low (k := k) (L := L) h.2
      have e : belE k (y :: L) = belE k L + 1 := by unfold belE; rw [List.filter_cons_of_pos (by simpa using hq)]; rfl
      rw [e, List.filter_cons_of_pos (by simpa using hq), List.take_succ_cons, ih]
theorem filter_high {k : ByteArray} : ∀ {L : List En}, RisesE L → L.filter (fun y => !kLt y.k k) = L.drop (belE k L)
  | [], _ => rfl
  | y :: L, h => by
    unfold RisesE at h
    rw [List.pairwise_cons] at h
    cases hq : kLt y.k k
    · have hn : ∀ x ∈ y :: L, kLt x.k k = false := fun x hx => by
        rcases List.mem_cons.1 hx with rfl | hx
        · exact hq
        · cases hq2 : kLt x.k k
          · rfl
          · have := kLt_trans (h.1 x hx) hq2
            rw [hq] at this; cases this
      have h1 : belE k (y :: L) = 0 := by
        unfold belE
        rw [List.filter_eq_nil_iff.2 (fun x hx => by simp [hn x hx])]
        rfl
      rw [h1, List.drop_zero, List.filter_eq_self]
      intro x hx
      simp [hn x hx]
    · have ih := filter_high (k := k) (L := L) h.2
      have e : belE k (y :: L) = belE k L + 1 := by unfold belE; rw [List.filter_cons_of_pos (by simpa using hq)]; rfl
      rw [e, List.filter_cons_of_neg (by simp [hq]), List.drop_succ_cons, ih]
/-- Whether a key is in a range that may be. -/
def inR (lo hi : ByteArray) (op : Bool) (e : En) : Bool := !kLt e.k lo && (op || kLt e.k hi)
/-- Where the rows of a range end. -/
def endE (hi : ByteArray) (op : Bool) (L : List En) : Nat := if op then L.length else belE hi L
theorem endE_le (hi : ByteArray) (op : Bool) (L : List En) : endE hi op L ≤ L.length := by
  unfold endE; split
  · exact Nat.le_refl _
  · exact belE_le _ _
theorem rank_take {lo hi : ByteArray} {L : List En} (hs : RisesE L) (h : kLt hi lo = false) : belE lo (L.take (belE hi L)) = belE lo L := by
  rw [← filter_low hs]
  unfold belE
  rw [List.filter_filter]
  congr 1
  apply List.filter_congr
  intro x _
  cases h1 : kLt x.k lo
  · simp
  · simp [kLt_trans_le h1 h]
/-- The rows of a range. -/
theorem seg_range {lo hi : ByteArray} {op : Bool} {L : List En} (hs : RisesE L) (h : op = true ∨ kLt hi lo = false) : (L.take (endE hi op L)).drop (belE lo L) = L.filter (inR lo hi op) := by
  cases op with
  | true =>
    have : inR lo hi true = fun y => !kLt y.k lo := by funext y; simp [inR]
    rw [this, filter_high hs]
    simp [endE]
  | false =>
    have h' : kLt hi lo = false := by rcases h with h | h; cases h; exact h
    have hs2 : RisesE (L.take (belE hi L)) := List.Pairwise.sublist (List.take_sublist _ _) hs
    show (L.take (belE hi L)).drop (belE lo L) = _
    rw [← rank_take hs h', ← filter_high hs2, ← filter_low hs, List.filter_filter]
    apply List.filter_congr
    intro x _
    simp [inR]
end Go.Proofs.YtldnmboenfaajaaGreatDoor
namespace Go.Proofs.YtldnmboenfaajaaGreatDoor
open Go.RowKit
set_option linter.unusedVariables false
/-- p points to the tree t. -/
def IsTE (w : World) : Option Addr → Tr En Tl → Prop
  | p, .nil => p = none
  | p, .node l k v s r => ∃ b lp rp, p = some ⟨b, 0, none⟩ ∧ w.heap[b]? = some (.cells #[.string k, .string v.k, .int .i64 v.c, .int .i64 v.n, .string v.v, .bool v.d, .int .i64 s.n, .int .u64 s.a, .int .u64 s.b, .pointer lp, .pointer rp, .int .i64 ((Tr.node l k v s r).cnt : Int), .int .i64 ((Tr.node l k v s r).ht : Int), .int .i64 ((Tr.node l k v s r).sum tJoin tZero).n, .int .u64 ((Tr.node l k v s r).sum tJoin tZero).a, .int .u64 ((Tr.node l k v s r).sum tJoin tZero).b] 169 (0, 0)) ∧ IsTE w lp l ∧ IsTE w rp r
theorem IsTE.stay {w w' : World} (h : Stay 169 w w') : ∀ (t : Tr En Tl) (p : Option Addr), IsTE w p t → IsTE w' p t
  | .nil, _, e => e
  | .node l k v s r, _, ⟨b, lp, rp, e, hb, hl, hr⟩ => ⟨b, lp, rp, e, h _ _ hb, IsTE.stay h l lp hl, IsTE.stay h r rp hr⟩
theorem IsTE.on {w w' : World} {p : Option Addr} {t : Tr En Tl} (i : IsTE w p t) (h : Stay 169 w w') : IsTE w' p t := IsTE.stay h t p i
theorem nodeE {w : World} {b : Nat} {k : ByteArray} {v : En} {s : Tl} {lp rp : Option Addr} {c h : Int} {q : Tl} (hb : w.heap[b]? = some (.cells #[.string k, .string v.k, .int .i64 v.c, .int .i64 v.n, .string v.v, .bool v.d, .int .i64 s.n, .int .u64 s.a, .int .u64 s.b, .pointer lp, .pointer rp, .int .i64 c, .int .i64 h, .int .i64 q.n, .int .u64 q.a, .int .u64 q.b] 169 (0, 0))) :
    w.cell? ⟨b, 0, none⟩ = some (.string k) ∧ w.cell? ⟨b, 1, none⟩ = some (.string v.k) ∧ w.cell? ⟨b, 2, none⟩ = some (.int .i64 v.c) ∧ w.cell? ⟨b, 3, none⟩ = some (.int .i64 v.n) ∧ w.cell? ⟨b, 4, none⟩ = some (.string v.v) ∧ w.cell? ⟨b, 5, none⟩ = some (.bool v.d) ∧ w.cell? ⟨b, 6, none⟩ = some (.int .i64 s.n) ∧ w.cell? ⟨b, 7, none⟩ = some (.int .u64 s.a) ∧ w.cell? ⟨b, 8, none⟩ = some (.int .u64 s.b) ∧ w.cell? ⟨b, 9, none⟩ = some (.pointer lp) ∧ w.cell? ⟨b, 10, none⟩ = some (.pointer rp) ∧ w.cell? ⟨b, 11, none⟩ = some (.int .i64 c) ∧ w.cell? ⟨b, 12, none⟩ = some (.int .i64 h) ∧ w.cell? ⟨b, 13, none⟩ = some (.int .i64 q.n) ∧ w.cell? ⟨b, 14, none⟩ = some (.int .u64 q.a) ∧ w.cell? ⟨b, 15, none⟩ = some (.int .u64 q.b) := by
  simp [World.cell?, hb]
/-- A tree's own block: it holds its join jv and its root. -/
def TObjE (w : World) (tb : Nat) (jv : Value) (root : Option Addr) : Prop := w.heap[tb]? = some (.cells #[.int .i64 0, .int .u64 0, .int .u64 0, jv, .pointer root] 161 (0, 0))
theorem tobjE {w : World} {tb : Nat} {jv : Value} {root : Option Addr} (h : TObjE w tb jv root) :
    w.cell? ⟨tb, 0, none⟩ = some (.int .i64 0) ∧ w.cell? ⟨tb, 1, none⟩ = some (.int .u64 0) ∧ w.cell? ⟨tb, 2, none⟩ = some (.int .u64 0) ∧ w.cell? ⟨tb, 3, none⟩ = some (jv) ∧ w.cell? ⟨tb, 4, none⟩ = some (.pointer root) ∧ w.frozen? ⟨tb, 4, none⟩ = false := by
  unfold TObjE at h
  simp [World.cell?, World.frozen?, h]
set_option maxHeartbeats 1600000 in
theorem rowsE {w : World} {p : Option Addr} {t : Tr En Tl} (h : IsTE w p t) :
    Calls Tryz.prog 83 #[.pointer p] w fun e w' => e = .returned (.int .i64 (t.cnt : Int)) ∧ w' = w := by
  cases t with
  | nil =>
    obtain rfl : p = none := h
    go_enter Tryz.func83, Tryz.ntmps83
    go_wp2
    go_ret
    exact ⟨rfl, rfl⟩
  | node l k v s r =>
    obtain ⟨b, lp, rp, rfl, hb, _, _⟩ := h
    have hn := nodeE hb
    obtain ⟨-, -, -, -, -, -, -, -, -, -, -, h, -, -, -, -⟩ := hn
    clear hb
    generalize ((Tr.node l k v s r).cnt : Int) = c at *
    go_enter Tryz.func83, Tryz.ntmps83
    go_wp2
    go_ret
    exact ⟨rfl, rfl⟩
set_option maxHeartbeats 1600000 in
theorem levelsE {w : World} {p : Option Addr} {t : Tr En Tl} (h : IsTE w p t) :
    Calls Tryz.prog 85 #[.pointer p] w fun e w' => e = .returned (.int .i64 (t.ht : Int)) ∧ w' = w := by
  cases t with
  | nil =>
    obtain rfl : p = none := h
    go_enter Tryz.func85, Tryz.ntmps85
    go_wp2
    go_ret
    exact ⟨rfl, rfl⟩
  | node l k v s r =>
    obtain ⟨b, lp, rp, rfl, hb, _, _⟩ := h
    have hn := nodeE hb
    obtain ⟨-, -, -, -, -, -, -, -, -, -, -, -, h, -, -, -⟩ := hn
    clear hb
    generalize ((Tr.node l k v s r).ht : Int) = c at *
    go_enter Tryz.func85, Tryz.ntmps85
    go_wp2
    go_ret
    exact ⟨rfl, rfl⟩
end Go.Proofs.YtldnmboenfaajaaGreatDoor
namespace Go.Proofs.YtldnmboenfaajaaGreatDoor
open Go.RowKit
set_option linter.unusedVariables false
end Go.Proofs.YtldnmboenfaajaaGreatDoor
namespace Go.Proofs.YtldnmboenfaajaaGreatDoor
open Go.RowKit
set_option linter.unusedVariables false
/-- Two tallies and the result's place, in memory. -/
structure J3 (w V : World) (n a b m c d : Int) : Prop where
  below : Below w.heap.size w V
  b0 : V.heap[w.heap.size]? = some (.cells #[.int .i64 n, .int .u64 a, .int .u64 b] 128)
  b1 : V.heap[w.heap.size + 1]? = some (.cells #[.int .i64 m, .int .u64 c, .int .u64 d] 128)
  b2 : V.heap[w.heap.size + 1 + 1]? = some (.cells #[.int .i64 0, .int .u64 0, .int .u64 0] 128)
end Go.Proofs.YtldnmboenfaajaaGreatDoor
namespace Go.Proofs.YtldnmboenfaajaaGreatDoor
open Go.RowKit
set_option linter.unusedVariables false
set_option maxHeartbeats 1600000 in
theorem newMeter_any (w : World) :
    Calls Tryz.prog 48 #[] w fun e w' => e = .returned (.pointer (some ⟨w.heap.size, 0, none⟩)) ∧ w' = w.alloc (.cells #[.int .i64 0] 158) := by
  go_enter Tryz.func48, Tryz.ntmps48
  go_wp2
  go_ret
  exact ⟨rfl, rfl⟩
end Go.Proofs.YtldnmboenfaajaaGreatDoor
namespace Go.Proofs.YtldnmboenfaajaaGreatDoor
open Go.RowKit
set_option linter.unusedVariables false
end Go.Proofs.YtldnmboenfaajaaGreatDoor
namespace Go.Proofs.YtldnmboenfaajaaGreatDoor
open Go.RowKit
set_option linter.unusedVariables false
end Go.Proofs.YtldnmboenfaajaaGreatDoor
namespace Go.Proofs.YtldnmboenfaajaaGreatDoor
open Go.RowKit
set_option linter.unusedVariables false
end Go.Proofs.YtldnmboenfaajaaGreatDoor
namespace Go.Proofs.YtldnmboenfaajaaGreatDoor
open Go.RowKit
set_option linter.unusedVariables false
end Go.Proofs.YtldnmboenfaajaaGreatDoor
namespace Go.Proofs.YtldnmboenfaajaaGreatDoor
open Go.RowKit
set_option linter.unusedVariables false
end Go.Proofs.YtldnmboenfaajaaGreatDoor
namespace Go.Proofs.YtldnmboenfaajaaGreatDoor
open Go.RowKit
set_option linter.unusedVariables false
end Go.Proofs.YtldnmboenfaajaaGreatDoor
namespace Go.Proofs.YtldnmboenfaajaaGreatDoor
open Go.RowKit
set_option linter.unusedVariables false
end Go.Proofs.YtldnmboenfaajaaGreatDoor
namespace Go.Proofs.YtldnmboenfaajaaGreatDoor
open Go.RowKit
set_option linter.unusedVariables false
end Go.Proofs.YtldnmboenfaajaaGreatDoor
namespace Go.Proofs.YtldnmboenfaajaaGreatDoor
open Go.RowKit
set_option linter.unusedVariables false
end Go.Proofs.YtldnmboenfaajaaGreatDoor
namespace Go.Proofs.YtldnmboenfaajaaGreatDoor
open Go.RowKit
set_option linter.unusedVariables false
end Go.Proofs.YtldnmboenfaajaaGreatDoor
namespace Go.Proofs.YtldnmboenfaajaaGreatDoor
open Go.RowKit
set_option linter.unusedVariables false
end Go.Proofs.YtldnmboenfaajaaGreatDoor
namespace Go.Proofs.YtldnmboenfaajaaGreatDoor
open Go.RowKit
set_option linter.unusedVariables false
end Go.Proofs.YtldnmboenfaajaaGreatDoor
namespace Go.Proofs.YtldnmboenfaajaaGreatDoor
open Go.RowKit
set_option linter.unusedVariables false
end Go.Proofs.YtldnmboenfaajaaGreatDoor
namespace Go.Proofs.YtldnmboenfaajaaGreatDoor
open Go.RowKit
set_option linter.unusedVariables false
theorem infoPNE : (Tryz.prog.info? 159).map (fun i => (i.zero, i.size, i.bytes)) = some (some (.pointer none), 1, 8) := by kernel_rfl
/-- The pointers of a way. -/
def ptrsE (l : List (Option Addr × Tr En Tl)) : List Value := l.map (fun x => .pointer x.1)
/-- What the loop of down keeps: pre has been passed; T' is what the way goes on from; at most g rounds are to come. -/
def DRelE (w : World) (k : ByteArray) (T : Tr En Tl) (g : Nat) (above at_ lo : Value) (wr : World) : Prop :=
  ∃ (pre : List (Option Addr × Tr En Tl)) (p : Option Addr) (T' : Tr En Tl) (L b cap : Nat), above = .slice (some ⟨b, 0, none⟩) pre.length cap ∧ at_ = .pointer p ∧ lo = .int .i64 (L : Int) ∧
    IsTE w p T' ∧ T'.ht ≤ g ∧ wr.ownsRow w.heap.size 159 1 (.slice (some ⟨b, 0, none⟩) pre.length cap) pre.length (ptrsE pre) ∧ Below w.heap.size w wr ∧ (∀ x ∈ pre, IsTE w x.1 x.2) ∧
    Tr.path k T = pre.map (·.2) ++ Tr.path k T' ∧ Tr.found k T = Tr.found k T' ∧ Tr.lower k T = L + Tr.lower k T' ∧ pre.length + T'.ht ≤ T.ht ∧ L + T'.cnt ≤ T.cnt
theorem DRelE.mk0 {w w0 : World} {k : ByteArray} {T : Tr En Tl} {p : Option Addr} {cap b : Nat} (hT : IsTE w p T) (ho : w0.ownsRow w.heap.size 159 1 (.slice (some ⟨b, 0, none⟩) 0 cap) 0 []) (hb : Below w.heap.size w w0) :
    DRelE w k T T.ht (.slice (some ⟨b, 0, none⟩) 0 cap) (.pointer p) (.int .i64 0) w0 :=
  ⟨[], p, T, 0, b, cap, rfl, rfl, rfl, hT, Nat.le_refl _, ho, hb, (fun x hx => by cases hx), rfl, rfl, by omega, by simp, by omega⟩
/-- One pointer more. -/
theorem down_rowE {w wr w1 : World} {u : Value} {pre : List (Option Addr × Tr En Tl)} {b b1 cap1 : Nat} {o : Obj} {T' : Tr En Tl} (hb : Below w.heap.size w wr)
    (hown : wr.ownsRow w.heap.size 159 1 u pre.length (ptrsE pre)) (hgrow : (wr.alloc o).grownBy w1 u.ownBlock)
    (hown1 : w1.ownsRow w.heap.size 159 1 (.slice (some ⟨b1, 0, none⟩) (pre.length + 1) cap1) (pre.length + 1) (ptrsE pre ++ [.pointer (some ⟨b, 0, none⟩)])) :
    w1.ownsRow w.heap.size 159 1 (.slice (some ⟨b1, 0, none⟩) (pre ++ [((some ⟨b, 0, none⟩ : Option Addr), T')]).length cap1) (pre ++ [((some ⟨b, 0, none⟩ : Option Addr), T')]).length (ptrsE (pre ++ [((some ⟨b, 0, none⟩ : Option Addr), T')])) ∧ Below w.heap.size w w1 := by
  constructor
  · simpa [ptrsE] using hown1
  · exact (hb.alloc hb.size o).grown hgrow (by have := hb.size; simp; omega) (fun j hj => (hown.lt j hj).1)
/-- What down hands back. -/
def DownsE (w : World) (k : ByteArray) (T : Tr En Tl) (e : Ending) (w' : World) : Prop :=
  ∃ (pre : List (Option Addr × Tr En Tl)) (p : Option Addr) (b cap : Nat), e = .returned (.tuple #[.slice (some ⟨b, 0, none⟩) pre.length cap, .pointer p, .int .i64 (Tr.lower k T : Int)]) ∧
    IsTE w p (Tr.found k T) ∧ w'.ownsRow w.heap.size 159 1 (.slice (some ⟨b, 0, none⟩) pre.length cap) pre.length (ptrsE pre) ∧ Below w.heap.size w w' ∧ (∀ x ∈ pre, IsTE w x.1 x.2) ∧ pre.map (·.2) = Tr.path k T
set_option maxHeartbeats 3200000 in
set_option maxRecDepth 100000 in
theorem downE (k : ByteArray) {w : World} {tb : Nat} {jv : Value} {p0 : Option Addr} {T : Tr En Tl} (ht : TObjE w tb jv p0) (hT : IsTE w p0 T) (hh : T.ht ≤ 1000000) (hcn : T.cnt ≤ 4611686018427387904) :
    Calls Tryz.prog 67 #[.pointer (some ⟨tb, 0, none⟩), .string k] w (DownsE w k T) := by
  obtain ⟨i0, hi0, hz0, hz1, hz2⟩ := info_parts infoPNE
  have HI := aside hi0
  have HT := aside hT
  have t0 := tobjE ht
  obtain ⟨-, -, -, -, r0, -⟩ := t0
  have CL := aside (levelsE hT)
  obtain ⟨h, hh1⟩ : ∃ h : Int, (T.ht : Int) = h := ⟨_, rfl⟩
  rw [hh1] at CL
  have HH := aside hh1
  have HCN := aside hcn
  have HHT := aside hh
  have TL := aside (lt_of_blk ht)
  clear ht hT hh1 hcn hh
  go_enter Tryz.func67, Tryz.ntmps67
  go_wp2
  go_step3
  go_wp2_with fail
  refine CL.out.mono ?_
  rintro e w1 ⟨rfl, rfl⟩
  go_wp2_with (at_make; refine wpList_make_own _ rfl _ _ 163 rfl w1.heap.size 159 i0 (.pointer none) 1 Tryz.underlying163 hi0 hz0 hz1 _ _ _ T.ht rfl rfl HH.out.symm (by rw [hz2]; have := HHT.out; omega) (by have := HHT.out; unfold maxLen; omega) (Nat.le_refl _) ?_)
  intro w0 hown0 hgrow0
  have hb0 : Below w1.heap.size w1 w0 := (Below.refl _ w1).grown hgrow0 (Nat.le_refl _) (fun k e => by cases e)
  have R0 := aside (DRelE.mk0 (k := k) HT.out hown0 hb0)
  have r0' := (hb0.cell (p := ⟨tb, 4, none⟩) TL.out).trans r0
  clear hgrow0 hown0 hb0 r0
  go_wp2
  go_step3
  go_wp2
  clear r0'
  go_loopg [4, 5, 6] T.ht (fun g a at_ lo wr => DRelE w1 k T g a at_ lo wr)
  case atStart => exact R0.out
  case round =>
    obtain ⟨pre, p, T', L, b0, cap, rfl, rfl, rfl, hT', hg, ho, hb, hpre, e1, e2, e3, e4, e5⟩ := hrel
    have HO := aside ho
    have HB := aside hb
    have HP := aside hpre
    have E1 := aside e1
    have E2 := aside e2
    have E3 := aside e3
    have E4 := aside e4
    have E5 := aside e5
    have HG := aside hg
    clear ho hb hpre e1 e2 e3 e4 e5 hg R0
    cases T' with
    | nil =>
      obtain rfl : p = none := hT'
      have he : Tr.lower k T = L := by have := E3.out; simpa [Tr.lower] using this
      have HE := aside he
      clear he
      go_wp2
      go_ret3
      refine ⟨pre, none, b0, cap, by rw [HE.out]; rfl, by rw [E2.out]; rfl, HO.out, HB.out, HP.out, by rw [E1.out]; simp [Tr.path]⟩
    | node l k' v s r =>
      have HT' := aside hT'
      obtain ⟨b, lp, rp, rfl, hbk, hl, hr⟩ := hT'
      have HL := aside hl
      have HR := aside hr
      have HK := aside hbk
      have hn := nodeE (blk_on hbk HB.out)
      obtain ⟨c0, -, -, -, -, -, -, -, -, c1, c2, -, -, -, -, -⟩ := hn
      clear hbk hl hr
      have CW := aside (fun (W : World) (h : Stay 169 w1 W) => rowsE (HL.out.on h))
      obtain ⟨lc, hlc⟩ : ∃ x : Int, (l.cnt : Int) = x := ⟨_, rfl⟩
      rw [hlc] at CW
      have HLC := aside hlc
      clear hlc
      cases q1 : Op.bytesLess k.toList k'.toList
      · cases q2 : Op.bytesLess k'.toList k.toList
        · have Q1 := aside (show kLt k k' = false from q1)
          have Q2 := aside (show kLt k' k = false from q2)
          have hgt : binOp .gtr 9 (.string k) (.string k') = pure (.bool false) := str_gtr (kLt_same Q1.out Q2.out)
          have hsum : IntKind.i64.wrap ((L : Int) + lc) = ((Tr.lower k T : Nat) : Int) := by
            have h1 := E3.out
            have h2 := HLC.out
            have h3 := HCN.out
            have h4 := E5.out
            simp only [Tr.lower, Q1.out, Q2.out, Bool.false_eq_true, if_false] at h1
            simp only [Tr.cnt] at h4
            rw [IntKind.wrap_i64]
            omega
          have HS := aside hsum
          clear hsum
          obtain ⟨lo, hlo⟩ : ∃ x : Int, IntKind.i64.wrap ((L : Int) + lc) = x := ⟨_, rfl⟩
          have HS2 := aside (hlo.symm.trans HS.out)
          go_wp2_with fail
          refine (CW.out _ (fun _ _ e => blk_on e HB.out)).mono ?_
          rintro e w2 ⟨rfl, rfl⟩
          go_wp2
          go_ret3
          refine ⟨pre, some ⟨b, 0, none⟩, b0, cap, ?_, ?_, HO.out, HB.out, HP.out, ?_⟩
          · rw [← HS2.out]; rfl
          · rw [E2.out]; simp only [Tr.found, Q1.out, Q2.out, Bool.false_eq_true, if_false]; exact HT'.out
          · rw [E1.out]; simp [Tr.path, Q1.out, Q2.out]
        · have Q1 := aside (show kLt k k' = false from q1)
          have Q2 := aside (show kLt k' k = true from q2)
          have hgt : binOp .gtr 9 (.string k) (.string k') = pure (.bool true) := str_gtr (kLt_over Q2.out)
          have hlen : pre.length ≤ 1000000 := by have := E4.out; have := HHT.out; omega
          have HLEN := aside hlen
          clear hlen
          go_wp2_with (at_builtin; refine wpList_append_lies _ rfl _ _ _ rfl w1.heap.size 159 i0 (.pointer none) 1 8 Tryz.underlying163 hi0 hz0 hz1 hz2 rfl (by decide) _ _ _ (by rfl) (HO.out.alloc _) ⟨wr.heap.size, 0, none⟩ 1 1 [.pointer (some ⟨b, 0, none⟩)] (by rfl) (by rfl) (World.news_of_block (cs := #[.pointer (some ⟨b, 0, none⟩)]) (t := 159) (fr := (0, 0)) (heap_alloc_new wr _)) (by simp [Value.oneCell']) (by first | omega | skip) (by have := HLEN.out; unfold maxLen; omega) (by have := HLEN.out; omega) (by have := HB.out.size; simp; omega) (wr.heap.size + 1) (by simp) ?_; intro b1 cp w1 hown1 hgrow hat hlt1; refine Hid.out ?_)
          refine aside ?_
          obtain ⟨O1, B1⟩ := down_rowE (T' := Tr.node l k' v s r) HB.out HO.out hgrow hown1
          have HO1 := aside O1
          have HB1 := aside B1
          have hn := nodeE (blk_on HK.out B1)
          obtain ⟨d0, -, -, -, -, -, -, -, -, d1, d2, -, -, -, -, -⟩ := hn
          clear O1 B1 hgrow hown1 hat hlt1 c0 c1 c2
          go_wp2_with fail
          refine (CW.out _ (fun _ _ e => blk_on e HB1.out)).mono ?_
          rintro e w2 ⟨rfl, rfl⟩
          have hs1 : IntKind.i64.wrap (lc + 1) = lc + 1 := by
            have h2 := HLC.out
            have h3 := HCN.out
            have h4 := E5.out
            simp only [Tr.cnt] at h4
            rw [IntKind.wrap_i64]
            omega
          have hs2 : IntKind.i64.wrap ((L : Int) + (lc + 1)) = ((L + (l.cnt + 1) : Nat) : Int) := by
            have h2 := HLC.out
            have h3 := HCN.out
            have h4 := E5.out
            simp only [Tr.cnt] at h4
            rw [IntKind.wrap_i64]
            omega
          obtain ⟨lo, hlo⟩ : ∃ x : Int, IntKind.i64.wrap ((L : Int) + (lc + 1)) = x := ⟨_, rfl⟩
          have HS2 := aside (hlo.symm.trans hs2)
          clear hs2
          go_wp2
          go_roundg r.ht
          case measure => have := HG.out; simp only [Tr.ht] at this; omega
          case rel =>
            refine ⟨pre ++ [(some ⟨b, 0, none⟩, Tr.node l k' v s r)], rp, r, L + (l.cnt + 1), b1, cp, by simp, rfl, by rw [← HS2.out], HR.out, Nat.le_refl _, HO1.out, HB1.out, ?_, ?_, ?_, ?_, ?_, ?_⟩
            · intro x hx
              rcases List.mem_append.1 hx with hx | hx
              · exact HP.out x hx
              · rw [List.mem_singleton.1 hx]; exact HT'.out
            · rw [E1.out]; simp [Tr.path, Q1.out, Q2.out]
            · rw [E2.out]; simp [Tr.found, Q1.out, Q2.out]
            · rw [E3.out]; simp only [Tr.lower, Q1.out, Q2.out, Bool.false_eq_true, if_false, if_true]; omega
            · have := E4.out; simp only [Tr.ht] at this; simp; omega
            · have := E5.out; simp only [Tr.cnt] at this; omega
      · have Q1 := aside (show kLt k k' = true from q1)
        have hlen : pre.length ≤ 1000000 := by have := E4.out; have := HHT.out; omega
        have HLEN := aside hlen
        clear hlen
        go_wp2_with (at_builtin; refine wpList_append_lies _ rfl _ _ _ rfl w1.heap.size 159 i0 (.pointer none) 1 8 Tryz.underlying163 hi0 hz0 hz1 hz2 rfl (by decide) _ _ _ (by rfl) (HO.out.alloc _) ⟨wr.heap.size, 0, none⟩ 1 1 [.pointer (some ⟨b, 0, none⟩)] (by rfl) (by rfl) (World.news_of_block (cs := #[.pointer (some ⟨b, 0, none⟩)]) (t := 159) (fr := (0, 0)) (heap_alloc_new wr _)) (by simp [Value.oneCell']) (by first | omega | skip) (by have := HLEN.out; unfold maxLen; omega) (by have := HLEN.out; omega) (by have := HB.out.size; simp; omega) (wr.heap.size + 1) (by simp) ?_; intro b1 cp w1 hown1 hgrow hat hlt1; refine Hid.out ?_)
        refine aside ?_
        obtain ⟨O1, B1⟩ := down_rowE (T' := Tr.node l k' v s r) HB.out HO.out hgrow hown1
        have HO1 := aside O1
        have HB1 := aside B1
        have hn := nodeE (blk_on HK.out B1)
        obtain ⟨d0, -, -, -, -, -, -, -, -, d1, d2, -, -, -, -, -⟩ := hn
        clear O1 B1 hgrow hown1 hat hlt1 c0 c1 c2
        go_wp2
        go_roundg l.ht
        case measure => have := HG.out; simp only [Tr.ht] at this; omega
        case rel =>
          refine ⟨pre ++ [(some ⟨b, 0, none⟩, Tr.node l k' v s r)], lp, l, L, b1, cp, by simp, rfl, rfl, HL.out, Nat.le_refl _, HO1.out, HB1.out, ?_, ?_, ?_, ?_, ?_, ?_⟩
          · intro x hx
            rcases List.mem_append.1 hx with hx | hx
            · exact HP.out x hx
            · rw [List.mem_singleton.1 hx]; exact HT'.out
          · rw [E1.out]; simp [Tr.path, Q1.out]
          · rw [E2.out]; simp [Tr.found, Q1.out]
          · rw [E3.out]; simp [Tr.lower, Q1.out]
          · have := E4.out; simp only [Tr.ht] at this; simp; omega
          · have := E5.out; simp only [Tr.cnt] at this; omega
end Go.Proofs.YtldnmboenfaajaaGreatDoor
namespace Go.Proofs.YtldnmboenfaajaaGreatDoor
open Go.RowKit Go.Shelf
set_option linter.unusedVariables false
attribute [local go_sem] Oper.semAt_some
/-- A node on the way: where it lies, and its tree. -/
structure BEE (w0 : World) (M : Nat) where
  i : Nat
  b : Nat
  l : Tr En Tl
  r : Tr En Tl
  k : ByteArray
  v : En
  s : Tl
  ok : IsTE w0 (some ⟨b, 0, none⟩) (.node l k v s r)
  le : (Tr.node l k v s r).wt tSz ≤ M
def BEE.t {w0 : World} {M : Nat} (x : BEE w0 M) : Tr En Tl := .node x.l x.k x.v x.s x.r
end Go.Proofs.YtldnmboenfaajaaGreatDoor
namespace Go.Proofs.YtldnmboenfaajaaGreatDoor
open Go.RowKit Go.Shelf
set_option linter.unusedVariables false
end Go.Proofs.YtldnmboenfaajaaGreatDoor
namespace Go.Proofs.YtldnmboenfaajaaGreatDoor
open Go.RowKit
set_option linter.unusedVariables false
end Go.Proofs.YtldnmboenfaajaaGreatDoor
namespace Go.Proofs.YtldnmboenfaajaaGreatDoor
open Go.RowKit Go.Shelf
set_option linter.unusedVariables false
theorem cells_own {A B : World} {row : Option Nat} {i : Nat} {cs : Array Value} {T : TypeId} (h : A.heap[i]? = some (.cells cs T (0, 0))) (hg : A.grownBy B row) (hr : ∀ r, row = some r → ∃ o : Obj, A.heap[r]? = some o ∧ o.isCells = false) : B.heap[i]? = some (.cells cs T (0, 0)) := (grownBy_keeps_cells hg hr h rfl).trans h
end Go.Proofs.YtldnmboenfaajaaGreatDoor
namespace Go.Proofs.YtldnmboenfaajaaGreatDoor
open Go.RowKit Go.Shelf
set_option linter.unusedVariables false
attribute [local go_sem] Oper.semAt_some
end Go.Proofs.YtldnmboenfaajaaGreatDoor
namespace Go.Proofs.YtldnmboenfaajaaGreatDoor
open Go.RowKit Go.Shelf
set_option linter.unusedVariables false
attribute [local go_sem] Oper.semAt_some
end Go.Proofs.YtldnmboenfaajaaGreatDoor
namespace Go.Proofs.YtldnmboenfaajaaGreatDoor
open Go.RowKit Go.Shelf
set_option linter.unusedVariables false
end Go.Proofs.YtldnmboenfaajaaGreatDoor

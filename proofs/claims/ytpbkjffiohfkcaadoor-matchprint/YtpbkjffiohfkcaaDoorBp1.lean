/-
  Bytes that a call owns: what they are as text, and small laws on rows of bytes that the walks of this seat share.
  Memory that a call has made: which blocks a step may turn (Keeps), a writer in its block (IsW), and what an append to it leaves.
  Plain mathematics: the order of keys, trees of rows, what Put makes of them.
  Memory of trees: blocks of one type that stay, a counter of joins, summaries.
  Small facts on blocks of two cells (sums), on frames, and entries as plain data.
  The table of lanes in memory; one word mixed into both lanes.
  Arguments of these laws, from their reading to plain numbers, texts, sums and entries; the table of lanes, from the row's list.
  What == says of two sums.
  Tallies: their three cells, what == says of two, and of sums within them.
  Memory of a store's tree: a meter that counts, tallies of three cells, entries of five.
  How often the join is called.
  Plain mathematics: the way down to a key, and the way back up with a row.
  Plain mathematics: a tree's n-th row, what a node holds, folds of rows by their numbers.
  Plain mathematics: a tree's rows as a sorted list, and what Put, Get, Rank, At and Fold are of it.
  Plain mathematics: trees that Put has made.
  The words of a key and a version, plain, and what both lanes come to.
  Lists of entries by rising keys.
  Plain mathematics of stores: entries by rising keys, what is put, found, counted and summed up.
-/
import Derived.Test.YtpbkjffiohfkcaaDoorProg
import Derived.WalkKit
import Derived.WalkSpells
import Derived.WalkLawsBesides
import Derived.OwnWalk
import Derived.Lib.UnsafeStr
import Derived.Laws.IdiomStrings
import Derived.Deep.AppendLies
import Derived.KernelRfl
import Derived.Below
import Derived.Laws.Rows
import Derived.Test.YtpbkjffiohfkcaaDoorRows
import Derived.ProofKit
import Derived.OpenShut
import Derived.ShutString
import Derived.SizedLaws
import Derived.HandedShaped
import Derived.Lib.SmallJoins
import Derived.Deep.Slices
import Derived.Deep.Strs
import Derived.Deep.CondSized
import Derived.ChangeOld
import Derived.LaidLaws
import Derived.FnData
import Derived.Laws.Tables
import Derived.Laws.Cover2
namespace Go.Proofs.YtpbkjffiohfkcaaDoor
open Go.RowKit
/-- A fact put aside: the walk does not look behind the name. -/
theorem aside {p : Prop} (h : p) : Hid p := h
theorem idx_str' (s : ByteArray) (k : Nat) (hk : k < s.size) (i : Int) (h : i = (k : Int)) (w : World) :
    (Instr.index 9 (.string s) (.int .i64 i)).run Tryd.prog w = .ok (.int .u8 (s[k].toNat : Int)) w := by
  subst h
  rw [run_index_string w 9 _ .i64 _ Tryd.underlying9, dif_pos ⟨by omega, by omega⟩]
  simp only [Int.toNat_natCast]
end Go.Proofs.YtpbkjffiohfkcaaDoor
namespace Go.Proofs.YtpbkjffiohfkcaaDoor
open Go.RowKit
/-- Of the blocks that were there only those in S may have turned; streams as they were; no block has gone. -/
structure Keeps (S : Nat → Prop) (w w' : World) : Prop where
  os : w'.os = w.os
  tape : w'.tape = w.tape
  output : w'.output = w.output
  size : w.heap.size ≤ w'.heap.size
  block : ∀ k, k < w.heap.size → ¬ S k → w'.heap[k]? = w.heap[k]?
theorem Keeps.refl (S : Nat → Prop) (w : World) : Keeps S w w := ⟨rfl, rfl, rfl, Nat.le_refl _, fun _ _ _ => rfl⟩
theorem Keeps.trans {S : Nat → Prop} {a b c : World} (h : Keeps S a b) (k : Keeps S b c) : Keeps S a c :=
  ⟨k.os.trans h.os, k.tape.trans h.tape, k.output.trans h.output, Nat.le_trans h.size k.size, fun i hi hs => (k.block i (Nat.lt_of_lt_of_le hi h.size) hs).trans (h.block i hi hs)⟩
theorem Keeps.mono {S S' : Nat → Prop} {w w' : World} (h : Keeps S w w') (hS : ∀ k, k < w.heap.size → S k → S' k) : Keeps S' w w' :=
  ⟨h.os, h.tape, h.output, h.size, fun k hk hs => h.block k hk (fun s => hs (hS k hk s))⟩
theorem Keeps.drew {S : Nat → Prop} {a w : World} (h : Keeps S a w) : Keeps S a w.drew := ⟨h.os, h.tape, h.output, h.size, h.block⟩
theorem Keeps.alloc {S : Nat → Prop} {a w : World} (h : Keeps S a w) (o : Obj) : Keeps S a (w.alloc o) :=
  h.trans ⟨rfl, rfl, rfl, by simp, fun k hk _ => Below.heap_alloc _ _ _ hk⟩
theorem Keeps.setCell {S : Nat → Prop} {a w : World} (h : Keeps S a w) {p : Addr} (hp : p.block < a.heap.size → S p.block) (u : Value) : Keeps S a (w.setCell p u) :=
  ⟨h.os, h.tape, h.output, Nat.le_trans h.size (by simp [World.setCell]), fun k hk hs => by
    have hne : k ≠ p.block := fun e => by subst e; exact hs (hp hk)
    rw [Below.heap_setCell _ _ _ _ hne]
    exact h.block k hk hs⟩
theorem Keeps.grown {S : Nat → Prop} {a w w' : World} {row : Option Nat} (h : Keeps S a w) (hg : w.grownBy w' row) (hr : ∀ k, row = some k → k < a.heap.size → S k) : Keeps S a w' :=
  ⟨hg.os.trans h.os, hg.tape.trans h.tape, hg.output.trans h.output, Nat.le_trans h.size hg.size, fun k hk hs => (hg.block k (Nat.lt_of_lt_of_le hk h.size) (fun e => hs (hr k e.symm hk))).trans (h.block k hk hs)⟩
theorem Keeps.below {S : Nat → Prop} {w w' : World} (h : Keeps S w w') {B : Nat} (hB : B ≤ w.heap.size) (hS : ∀ k, k < B → ¬ S k) : Below B w w' :=
  ⟨h.os, h.tape, h.output, h.size, fun k hk => h.block k (Nat.lt_of_lt_of_le hk hB) (hS k hk)⟩
theorem Keeps.of_below {w w' : World} (h : Below w.heap.size w w') (S : Nat → Prop) : Keeps S w w' :=
  ⟨h.os, h.tape, h.output, h.size, fun k hk _ => h.block k hk⟩
theorem Keeps.cell {S : Nat → Prop} {w w' : World} (h : Keeps S w w') {p : Addr} (hp : p.block < w.heap.size) (hn : ¬ S p.block) : w'.cell? p = w.cell? p := World.cell?_of_block (w := w) (h.block p.block hp hn)
theorem ownsRow_keep {S : Nat → Prop} {w w' : World} {base : Nat} {e : TypeId} {size : Nat} {v : Value} {n : Nat} {xs : List Value} (h : w.ownsRow base e size v n xs) (k : Keeps S w w') (hv : ∀ j, v.ownBlock = some j → ¬ S j) : w'.ownsRow base e size v n xs := by
  refine ⟨h.1, ?_⟩
  rcases h.2 with hn | ⟨g, cap, cur, rfl, hb, hg, r⟩
  · exact .inl hn
  · refine .inr ⟨g, cap, cur, rfl, hb, ?_, r⟩
    rw [k.block g (Array.getElem?_eq_some_iff.1 hg).1 (hv g rfl)]
    exact hg
/-- The row that a value owns is the old one, or was made since. -/
def Fresh (w : World) (g g' : Option Nat) : Prop := g' = g ∨ ∃ k, g' = some k ∧ w.heap.size ≤ k
theorem Fresh.trans {w w1 : World} {g g1 g2 : Option Nat} (h : Fresh w g g1) (k : Fresh w1 g1 g2) (hw : w.heap.size ≤ w1.heap.size) : Fresh w g g2 := by
  rcases k with rfl | ⟨j, rfl, hj⟩
  · exact h
  · exact .inr ⟨j, rfl, Nat.le_trans hw hj⟩
/-- Two steps that each turn block b and the row then owned. -/
theorem Keeps.step {b : Nat} {w wr w2 : World} {g g1 : Option Nat} (h1 : Keeps (fun k => k = b ∨ g = some k) w wr) (fr : Fresh w g g1) (h2 : Keeps (fun k => k = b ∨ g1 = some k) wr w2) : Keeps (fun k => k = b ∨ g = some k) w w2 :=
  ⟨h2.os.trans h1.os, h2.tape.trans h1.tape, h2.output.trans h1.output, Nat.le_trans h1.size h2.size, fun k hk hs =>
    (h2.block k (Nat.lt_of_lt_of_le hk h1.size) (fun e => by
      rcases e with e | e
      · exact hs (.inl e)
      · rcases fr with rfl | ⟨j, rfl, hj⟩
        · exact hs (.inr e)
        · cases e; omega)).trans (h1.block k hk hs)⟩
/-- A writer (a struct of one slice of bytes) of type T in block b, one of the blocks from B on; its row is in block g; it holds the bytes l. -/
def IsW (T B b : Nat) (g : Option Nat) (l : List UInt8) (w : World) : Prop :=
  B ≤ b ∧ g ≠ some b ∧ ∃ v, w.heap[b]? = some (.cells #[v] T (0, 0)) ∧ v.ownBlock = g ∧ w.ownsRow B 5 1 v l.length (Lib.byteCells l)
theorem IsW.lt {T B b : Nat} {g : Option Nat} {l : List UInt8} {w : World} (h : IsW T B b g l w) : b < w.heap.size := by
  obtain ⟨_, _, v, hv, _⟩ := h
  exact (Array.getElem?_eq_some_iff.1 hv).1
theorem IsW.row {T B b : Nat} {g : Option Nat} {l : List UInt8} {w : World} (h : IsW T B b g l w) : ∀ k, g = some k → B ≤ k ∧ k < w.heap.size := by
  obtain ⟨_, _, v, _, rfl, ho⟩ := h
  exact ho.lt
theorem IsW.keep {S : Nat → Prop} {T B b : Nat} {g : Option Nat} {l : List UInt8} {w w' : World} (h : IsW T B b g l w) (k : Keeps S w w') (hb : ¬ S b) (hg : ∀ j, g = some j → ¬ S j) : IsW T B b g l w' := by
  have hlt := h.lt
  obtain ⟨h1, h2, v, hv, rfl, ho⟩ := h
  exact ⟨h1, h2, v, (k.block b hlt hb).trans hv, rfl, ownsRow_keep ho k hg⟩
theorem cell_one {w : World} {T b : Nat} {v : Value} (hh : w.heap[b]? = some (.cells #[v] T (0, 0))) : w.cell? ⟨b, 0, none⟩ = some v := by
  rw [cell_of_row w b 0 _ _ _ hh]; rfl
theorem frozen_one {w : World} {T b : Nat} {v : Value} (hh : w.heap[b]? = some (.cells #[v] T (0, 0))) : w.frozen? ⟨b, 0, none⟩ = false := frozen_of_row w b 0 _ _ hh
end Go.Proofs.YtpbkjffiohfkcaaDoor
namespace Go.Proofs.YtpbkjffiohfkcaaDoor
open Go.RowKit
theorem L_irrefl : ∀ x : List UInt8, Op.bytesLess x x = false
  | [] => rfl
  | a :: x => by simp [Op.bytesLess, L_irrefl x]
theorem L_total : ∀ x y : List UInt8, Op.bytesLess x y = false → Op.bytesLess y x = false → x = y
  | [], [], _, _ => rfl
  | [], _ :: _, h, _ => by simp [Op.bytesLess] at h
  | _ :: _, [], _, h => by simp [Op.bytesLess] at h
  | a :: x, b :: y, h1, h2 => by
    simp only [Op.bytesLess, Bool.or_eq_false_iff, decide_eq_false_iff_not, Bool.and_eq_false_iff] at h1 h2
    have e : a = b := by
      have g1 := h1.1; have g2 := h2.1
      simp only [UInt8.lt_iff_toNat_lt] at g1 g2
      exact UInt8.toNat_inj.1 (by omega)
    subst e
    rw [L_total x y (by simpa using h1.2) (by simpa using h2.2)]
theorem L_trans : ∀ x y z : List UInt8, Op.bytesLess x y = true → Op.bytesLess y z = true → Op.bytesLess x z = true
  | _, _, [], _, h => by cases ‹List UInt8› <;> simp [Op.bytesLess] at h
  | _, [], _ :: _, h, _ => by cases ‹List UInt8› <;> simp [Op.bytesLess] at h
  | [], _ :: _, _ :: _, _, _ => by simp [Op.bytesLess]
  | a :: x, b :: y, c :: z, h1, h2 => by
    simp only [Op.bytesLess, Bool.or_eq_true, decide_eq_true_eq, Bool.and_eq_true, beq_iff_eq, UInt8.lt_iff_toNat_lt] at h1 h2 ⊢
    rcases h1 with h1 | ⟨rfl, h1⟩
    · rcases h2 with h2 | ⟨rfl, h2⟩
      · exact .inl (by omega)
      · exact .inl h1
    · rcases h2 with h2 | ⟨rfl, h2⟩
      · exact .inl h2
      · exact .inr ⟨rfl, L_trans x y z h1 h2⟩
theorem toList_inj {a b : ByteArray} (h : a.toList = b.toList) : a = b := by
  rw [ByteArray.toList_eq, ByteArray.toList_eq] at h
  cases a; cases b
  simp only [ByteArray.mk.injEq]
  exact Array.toList_inj.1 h
/-- A key is lower than another. -/
def kLt (a b : ByteArray) : Bool := Op.bytesLess a.toList b.toList
theorem kLt_irrefl (a : ByteArray) : kLt a a = false := L_irrefl _
theorem kLt_trans {a b c : ByteArray} (h : kLt a b = true) (k : kLt b c = true) : kLt a c = true := L_trans _ _ _ h k
theorem kLt_asymm {a b : ByteArray} (h : kLt a b = true) : kLt b a = false := by
  cases k : kLt b a
  · rfl
  · have := kLt_trans h k; rw [kLt_irrefl] at this; cases this
theorem kLt_total {a b : ByteArray} (h : kLt a b = false) (k : kLt b a = false) : a = b := toList_inj (L_total _ _ h k)
theorem kLt_ne {a b : ByteArray} (h : kLt a b = true) : a ≠ b := fun e => by subst e; rw [kLt_irrefl] at h; cases h
theorem kLt_trans_le {a b c : ByteArray} (h : kLt a b = true) (k : kLt c b = false) : kLt a c = true := by
  cases h2 : kLt b c
  · rw [kLt_total k h2]; exact h
  · exact kLt_trans h h2
/-- A row. -/
structure Rw (β α : Type) where
  k : ByteArray
  v : β
  s : α
/-- A tree of rows. -/
inductive Tr (β α : Type) where
  | nil : Tr β α
  | node (l : Tr β α) (k : ByteArray) (v : β) (s : α) (r : Tr β α) : Tr β α
namespace Tr
variable {β α : Type}
def isNil : Tr β α → Bool
  | nil => true
  | node .. => false
def cnt : Tr β α → Nat
  | nil => 0
  | node l _ _ _ r => l.cnt + 1 + r.cnt
def ht : Tr β α → Nat
  | nil => 0
  | node l _ _ _ r => max l.ht r.ht + 1
/-- How much a tree holds: its rows, and what their summaries take. -/
def wt (z : α → Nat) : Tr β α → Nat
  | nil => 0
  | node l _ _ s r => l.wt z + 1 + z s + r.wt z
/-- The sum that a node keeps. -/
def sum (J : α → α → α) (e : α) : Tr β α → α
  | nil => e
  | node l _ _ s r =>
    if r.isNil then (if l.isNil then s else J (l.sum J e) s) else J (if l.isNil then s else J (l.sum J e) s) (r.sum J e)
def rows : Tr β α → List (Rw β α)
  | nil => []
  | node l k v s r => l.rows ++ ⟨k, v, s⟩ :: r.rows
theorem rows_length : ∀ t : Tr β α, t.rows.length = t.cnt
  | nil => rfl
  | node l k v s r => by simp [rows, cnt, rows_length l, rows_length r]; omega
theorem ht_le_cnt : ∀ t : Tr β α, t.ht ≤ t.cnt
  | nil => Nat.le_refl _
  | node l k v s r => by have := ht_le_cnt l; have := ht_le_cnt r; simp only [ht, cnt]; omega
theorem cnt_le_wt (z : α → Nat) : ∀ t : Tr β α, t.cnt ≤ t.wt z
  | nil => Nat.le_refl _
  | node l k v s r => by have := cnt_le_wt z l; have := cnt_le_wt z r; simp only [wt, cnt]; omega
theorem sum_le {z : α → Nat} {J : α → α → α} (hJ : ∀ a b, z (J a b) ≤ z a + z b) (e : α) : ∀ t : Tr β α, t.isNil = false → z (t.sum J e) ≤ t.wt z
  | nil, h => by cases h
  | node l k v s r, _ => by
    have hl : l.isNil = false → z (l.sum J e) ≤ l.wt z := sum_le hJ e l
    have hr : r.isNil = false → z (r.sum J e) ≤ r.wt z := sum_le hJ e r
    cases h1 : l.isNil <;> cases h2 : r.isNil <;> simp only [sum, wt, h1, h2, if_true, if_false, Bool.false_eq_true]
    · have := hJ (J (l.sum J e) s) (r.sum J e); have := hJ (l.sum J e) s; have := hl h1; have := hr h2; omega
    · have := hJ (l.sum J e) s; have := hl h1; omega
    · have := hJ s (r.sum J e); have := hr h2; omega
    · omega
/-- A node turned to the right. -/
def turnR (k : ByteArray) (v : β) (s : α) (l r : Tr β α) : Tr β α :=
  match l with
  | nil => node nil k v s r
  | node ll lk lv ls lr =>
    if lr.ht ≤ ll.ht then node ll lk lv ls (node lr k v s r) else
      match lr with
      | nil => node (node ll lk lv ls nil) k v s r
      | node a ik iv is b => node (node ll lk lv ls a) ik iv is (node b k v s r)
def turnL (k : ByteArray) (v : β) (s : α) (l r : Tr β α) : Tr β α :=
  match r with
  | nil => node l k v s nil
  | node rl rk rv rs rr =>
    if rl.ht ≤ rr.ht then node (node l k v s rl) rk rv rs rr else
      match rl with
      | nil => node l k v s (node nil rk rv rs rr)
      | node a ik iv is b => node (node l k v s a) ik iv is (node b rk rv rs rr)
def level (k : ByteArray) (v : β) (s : α) (l r : Tr β α) : Tr β α :=
  if l.ht = r.ht + 2 then turnR k v s l r else if r.ht = l.ht + 2 then turnL k v s l r else node l k v s r
theorem level_cases {P : Tr β α → Prop} (k : ByteArray) (v : β) (s : α) (l r : Tr β α)
    (h0 : ¬ l.ht = r.ht + 2 → ¬ r.ht = l.ht + 2 → P (node l k v s r))
    (h1 : ∀ ll lk lv ls lr, l = node ll lk lv ls lr → l.ht = r.ht + 2 → lr.ht ≤ ll.ht → P (node ll lk lv ls (node lr k v s r)))
    (h2 : ∀ ll lk lv ls a ik iv is b, l = node ll lk lv ls (node a ik iv is b) → l.ht = r.ht + 2 → ll.ht < (node a ik iv is b).ht → P (node (node ll lk lv ls a) ik iv is (node b k v s r)))
    (h3 : ∀ rl rk rv rs rr, r = node rl rk rv rs rr → r.ht = l.ht + 2 → rl.ht ≤ rr.ht → P (node (node l k v s rl) rk rv rs rr))
    (h4 : ∀ a ik iv is b rk rv rs rr, r = node (node a ik iv is b) rk rv rs rr → r.ht = l.ht + 2 → rr.ht < (node a ik iv is b).ht → P (node (node l k v s a) ik iv is (node b rk rv rs rr))) : P (level k v s l r) := by
  unfold level
  split
  · rename_i h
    match l, h with
    | node ll lk lv ls lr, h =>
      simp only [turnR]
      split
      · rename_i g; exact h1 _ _ _ _ _ rfl h g
      · rename_i g
        match lr, h, g with
        | nil, h, g => simp [ht] at g
        | node a ik iv is b, h, g => exact h2 _ _ _ _ _ _ _ _ _ rfl h (by omega)
  · rename_i hn
    split
    · rename_i h
      match r, h with
      | node rl rk rv rs rr, h =>
        simp only [turnL]
        split
        · rename_i g; exact h3 _ _ _ _ _ rfl h g
        · rename_i g
          match rl, h, g with
          | nil, h, g => simp [ht] at g
          | node a ik iv is b, h, g => exact h4 _ _ _ _ _ _ _ _ _ rfl h (by omega)
    · rename_i h; exact h0 hn h
theorem rows_level (k : ByteArray) (v : β) (s : α) (l r : Tr β α) : (level k v s l r).rows = l.rows ++ ⟨k, v, s⟩ :: r.rows := by
  apply level_cases (P := fun t => t.rows = l.rows ++ ⟨k, v, s⟩ :: r.rows)
  · intros; rfl
  · rintro _ _ _ _ _ rfl _ _; simp [rows]
  · rintro _ _ _ _ _ _ _ _ _ rfl _ _; simp [rows]
  · rintro _ _ _ _ _ rfl _ _; simp [rows]
  · rintro _ _ _ _ _ _ _ _ _ rfl _ _; simp [rows]
theorem wt_level (z : α → Nat) (k : ByteArray) (v : β) (s : α) (l r : Tr β α) : (level k v s l r).wt z = l.wt z + 1 + z s + r.wt z := by
  apply level_cases (P := fun t => t.wt z = l.wt z + 1 + z s + r.wt z)
  · intros; rfl
  · rintro _ _ _ _ _ rfl _ _; simp only [wt]; omega
  · rintro _ _ _ _ _ _ _ _ _ rfl _ _; simp only [wt]; omega
  · rintro _ _ _ _ _ rfl _ _; simp only [wt]; omega
  · rintro _ _ _ _ _ _ _ _ _ rfl _ _; simp only [wt]; omega
/-- At each node the sides' heights differ by at most one. -/
def bal : Tr β α → Prop
  | nil => True
  | node l _ _ _ r => l.bal ∧ r.bal ∧ l.ht ≤ r.ht + 1 ∧ r.ht ≤ l.ht + 1
theorem bal_level {k : ByteArray} {v : β} {s : α} {l r : Tr β α} (hl : l.bal) (hr : r.bal) (h1 : l.ht ≤ r.ht + 2) (h2 : r.ht ≤ l.ht + 2) :
    (level k v s l r).bal ∧ (level k v s l r).ht ≤ max l.ht r.ht + 1 ∧ max l.ht r.ht ≤ (level k v s l r).ht ∧ (l.ht ≤ r.ht + 1 → r.ht ≤ l.ht + 1 → (level k v s l r).ht = max l.ht r.ht + 1) := by
  apply level_cases (P := fun t => t.bal ∧ t.ht ≤ max l.ht r.ht + 1 ∧ max l.ht r.ht ≤ t.ht ∧ (l.ht ≤ r.ht + 1 → r.ht ≤ l.ht + 1 → t.ht = max l.ht r.ht + 1))
  · intro a b; simp only [bal, ht]; exact ⟨⟨hl, hr, by omega, by omega⟩, by omega, by omega, fun _ _ => by first | rfl | trivial⟩
  · rintro ll lk lv ls lr rfl e g
    obtain ⟨a, b, c, d⟩ := hl
    simp only [bal, ht] at *
    exact ⟨⟨a, ⟨b, hr, by omega, by omega⟩, by omega, by omega⟩, by omega, by omega, by omega⟩
  · rintro ll lk lv ls a ik iv is b rfl e g
    obtain ⟨p, ⟨q1, q2, q3, q4⟩, c, d⟩ := hl
    simp only [bal, ht] at *
    exact ⟨⟨⟨p, q1, by omega, by omega⟩, ⟨q2, hr, by omega, by omega⟩, by omega, by omega⟩, by omega, by omega, by omega⟩
  · rintro ll lk lv ls lr rfl e g
    obtain ⟨a, b, c, d⟩ := hr
    simp only [bal, ht] at *
    exact ⟨⟨⟨hl, a, by omega, by omega⟩, b, by omega, by omega⟩, by omega, by omega, by omega⟩
  · rintro a ik iv is b rk rv rs rr rfl e g
    obtain ⟨⟨q1, q2, q3, q4⟩, p, c, d⟩ := hr
    simp only [bal, ht] at *
    exact ⟨⟨⟨hl, q1, by omega, by omega⟩, ⟨q2, p, by omega, by omega⟩, by omega, by omega⟩, by omega, by omega, by omega⟩
def put (k : ByteArray) (v : β) (s : α) : Tr β α → Tr β α
  | nil => node nil k v s nil
  | node l k' v' s' r =>
    if kLt k k' then level k' v' s' (put k v s l) r else if kLt k' k then level k' v' s' l (put k v s r) else node l k v s r
theorem bal_put (k : ByteArray) (v : β) (s : α) : ∀ t : Tr β α, t.bal → (put k v s t).bal ∧ t.ht ≤ (put k v s t).ht ∧ (put k v s t).ht ≤ t.ht + 1
  | nil, _ => by simp [put, bal, ht]
  | node l k' v' s' r, h => by
    obtain ⟨hl, hr, h1, h2⟩ := h
    simp only [put]
    split
    · obtain ⟨a, b, c⟩ := bal_put k v s l hl
      obtain ⟨p, q, r1, r2⟩ := bal_level (k := k') (v := v') (s := s') a hr (by omega) (by omega)
      refine ⟨p, ?_, ?_⟩
      · by_cases g : (put k v s l).ht ≤ r.ht + 1
        · rw [r2 g (by omega)]; simp only [ht]; omega
        · simp only [ht]; omega
      · by_cases g : (put k v s l).ht ≤ r.ht + 1
        · rw [r2 g (by omega)]; simp only [ht]; omega
        · simp only [ht]; omega
    · split
      · obtain ⟨a, b, c⟩ := bal_put k v s r hr
        obtain ⟨p, q, r1, r2⟩ := bal_level (k := k') (v := v') (s := s') hl a (by omega) (by omega)
        refine ⟨p, ?_, ?_⟩
        · by_cases g : (put k v s r).ht ≤ l.ht + 1
          · rw [r2 (by omega) g]; simp only [ht]; omega
          · simp only [ht]; omega
        · by_cases g : (put k v s r).ht ≤ l.ht + 1
          · rw [r2 (by omega) g]; simp only [ht]; omega
          · simp only [ht]; omega
      · exact ⟨⟨hl, hr, h1, h2⟩, Nat.le_refl _, Nat.le_succ _⟩
theorem bal_cnt : ∀ t : Tr β α, t.bal → 2 ^ (t.ht / 2) ≤ t.cnt + 1
  | nil, _ => by simp [ht, cnt]
  | node l k v s r, h => by
    obtain ⟨hl, hr, h1, h2⟩ := h
    have a := bal_cnt l hl
    have b := bal_cnt r hr
    simp only [ht, cnt]
    by_cases h0 : max l.ht r.ht = 0
    · rw [h0]; simp
    · have e : (max l.ht r.ht + 1) / 2 = (max l.ht r.ht - 1) / 2 + 1 := by omega
      rw [e, Nat.pow_succ]
      have c : 2 ^ ((max l.ht r.ht - 1) / 2) ≤ 2 ^ (l.ht / 2) := Nat.pow_le_pow_right (by omega) (by omega)
      have d : 2 ^ ((max l.ht r.ht - 1) / 2) ≤ 2 ^ (r.ht / 2) := Nat.pow_le_pow_right (by omega) (by omega)
      omega
theorem bal_ht {t : Tr β α} (h : t.bal) {n : Nat} (hn : t.cnt + 1 ≤ 2 ^ n) : t.ht ≤ 2 * n + 1 := by
  have := bal_cnt t h
  have h2 : t.ht / 2 ≤ n := by
    by_cases g : t.ht / 2 ≤ n
    · exact g
    · have : 2 ^ (n + 1) ≤ 2 ^ (t.ht / 2) := Nat.pow_le_pow_right (by omega) (by omega)
      rw [Nat.pow_succ] at this
      have := Nat.one_le_two_pow (n := n)
      omega
  omega
end Tr
end Go.Proofs.YtpbkjffiohfkcaaDoor
namespace Go.Proofs.YtpbkjffiohfkcaaDoor
open Go.RowKit
set_option linter.unusedVariables false
theorem bthen {w w1 w2 : World} (h : Below w.heap.size w w1) (h2 : Below w1.heap.size w1 w2) : Below w.heap.size w w2 := h.trans (h2.mono h.size)
theorem bnew (w : World) (o : Obj) : Below w.heap.size w (w.alloc o) := (Below.refl _ w).alloc (Nat.le_refl _) _
theorem blk_on {w w' : World} {i : Nat} {o : Obj} (h : w.heap[i]? = some o) (b : Below w.heap.size w w') : w'.heap[i]? = some o := (b.block i (Array.getElem?_eq_some_iff.1 h).1).trans h
theorem lt_of_blk {w : World} {i : Nat} {o : Obj} (h : w.heap[i]? = some o) : i < w.heap.size := (Array.getElem?_eq_some_iff.1 h).1
theorem blk_keep {S : Nat → Prop} {w w' : World} {i : Nat} {o : Obj} (h : w.heap[i]? = some o) (k : Keeps S w w') (hn : ¬ S i) : w'.heap[i]? = some o := (k.block i (lt_of_blk h) hn).trans h
/-- Blocks of the type T stay as they are. -/
def Stay (T : TypeId) (w w' : World) : Prop := ∀ (b : Nat) (cs : Array Value), w.heap[b]? = some (.cells cs T (0, 0)) → w'.heap[b]? = some (.cells cs T (0, 0))
theorem Stay.refl (T : TypeId) (w : World) : Stay T w w := fun _ _ h => h
theorem Stay.trans {T : TypeId} {a b c : World} (h : Stay T a b) (k : Stay T b c) : Stay T a c := fun _ _ e => k _ _ (h _ _ e)
theorem Stay.drew {T : TypeId} {a b : World} (h : Stay T a b) : Stay T a b.drew := fun _ _ e => h _ _ e
theorem Stay.alloc {T : TypeId} {a b : World} (h : Stay T a b) (o : Obj) : Stay T a (b.alloc o) := fun _ _ e => blk_on (h _ _ e) (bnew _ _)
theorem Stay.setCell {T : TypeId} {a b : World} (h : Stay T a b) {p : Addr} (u : Value) (hp : ∀ cs, b.heap[p.block]? ≠ some (.cells cs T (0, 0))) : Stay T a (b.setCell p u) := fun i _ e => by
  rw [heap_setCell_other]
  · exact h _ _ e
  · rintro rfl; exact hp _ (h _ _ e)
theorem Stay.keeps {T : TypeId} {S : Nat → Prop} {a b c : World} (h : Stay T a b) (k : Keeps S b c) (hS : ∀ i cs, b.heap[i]? = some (.cells cs T (0, 0)) → ¬ S i) : Stay T a c := fun i _ e => blk_keep (h _ _ e) k (hS _ _ (h _ _ e))
theorem Stay.grown {T : TypeId} {a b c : World} {row : Option Nat} (h : Stay T a b) (hg : b.grownBy c row) (hrow : ∀ r, row = some r → ∀ cs, b.heap[r]? ≠ some (.cells cs T (0, 0))) : Stay T a c := fun i _ e => by
  have e1 := h _ _ e
  rw [hg.block i (lt_of_blk e1) (fun e2 => hrow i e2.symm _ e1)]
  exact e1
/-- How often a join was called, where it counts: in the block c. -/
def Cnt (c : Option Nat) (n : Nat) (w : World) : Prop := ∀ b : Nat, c = some b → w.heap[b]? = some (.cells #[.int .i64 (IntKind.i64.wrap (n : Int))] 3 (0, 0))
/-- The counter's block. -/
def OnC (c : Option Nat) : Nat → Prop := fun k => c = some k
theorem Cnt.drew {c : Option Nat} {n : Nat} {w : World} (h : Cnt c n w) : Cnt c n w.drew := h
theorem Cnt.alloc {c : Option Nat} {n : Nat} {w : World} (h : Cnt c n w) (o : Obj) : Cnt c n (w.alloc o) := fun b e => blk_on (h b e) (bnew _ _)
theorem Cnt.keep {S : Nat → Prop} {c : Option Nat} {n : Nat} {w w' : World} (h : Cnt c n w) (k : Keeps S w w') (hS : ∀ b, c = some b → ¬ S b) : Cnt c n w' := fun b e => blk_keep (h b e) k (hS b e)
theorem Cnt.below {c : Option Nat} {n : Nat} {w w' : World} (h : Cnt c n w) (k : Below w.heap.size w w') : Cnt c n w' := fun b e => blk_on (h b e) k
theorem Cnt.apart {c : Option Nat} {n : Nat} {w : World} (h : Cnt c n w) {i : Nat} {cs : Array Value} {T : TypeId} (hi : w.heap[i]? = some (.cells cs T (0, 0))) (hT : T ≠ 3) : ¬ OnC c i := fun e => by
  have := h i e
  rw [hi] at this
  injection this with this
  injection this with _ e2
  exact hT e2
theorem Cnt.setCell {c : Option Nat} {n : Nat} {w : World} (h : Cnt c n w) {p : Addr} (u : Value) (hp : ¬ OnC c p.block) : Cnt c n (w.setCell p u) := fun b e => by
  rw [heap_setCell_other]
  · exact h b e
  · intro e2; exact hp (by show c = some p.block; rw [e, e2])
theorem Cnt.lt {c : Option Nat} {n : Nat} {w : World} (h : Cnt c n w) {i : Nat} (hi : w.heap.size ≤ i) : ¬ OnC c i := fun e => by
  have := lt_of_blk (h i e)
  omega
theorem Stay.onC {T : TypeId} {a b d : World} {c : Option Nat} {n : Nat} (h : Stay T a b) (hc : Cnt c n b) (k : Keeps (OnC c) b d) (hT : T ≠ 3) : Stay T a d := h.keeps k (fun _ _ e => hc.apart e hT)
theorem str_gtr {a b : ByteArray} {q : Bool} (h : (!(Op.bytesLess a.toList b.toList || a.toList == b.toList)) = q) : binOp .gtr 9 (.string a) (.string b) = pure (.bool q) := by
  simp only [binOp, Op.stringOp, h]
theorem kLt_same {a b : ByteArray} (h : kLt a b = false) (k : kLt b a = false) : (!(Op.bytesLess a.toList b.toList || a.toList == b.toList)) = false := by
  rw [kLt_total h k]; simp
theorem kLt_over {a b : ByteArray} (h : kLt b a = true) : (!(Op.bytesLess a.toList b.toList || a.toList == b.toList)) = true := by
  have h1 := kLt_asymm h
  have h2 : a.toList ≠ b.toList := fun e => by rw [toList_inj e, kLt_irrefl] at h; cases h
  unfold kLt at h1
  simp [h1, h2]
/-- A Map. -/
structure Mp where
  A : UInt64
  B : UInt64
def Mp.a (m : Mp) : Int := (m.A.toNat : Int)
def Mp.b (m : Mp) : Int := (m.B.toNat : Int)
theorem u64_add (x y : UInt64) : IntKind.u64.wrap ((x.toNat : Int) + (y.toNat : Int)) = ((x + y).toNat : Int) := by
  rw [IntKind.wrap_u64, UInt64.toNat_add]; omega
end Go.Proofs.YtpbkjffiohfkcaaDoor
namespace Go.Proofs.YtpbkjffiohfkcaaDoor
open Go.RowKit
set_option linter.unusedVariables false
/-- An entry, plain. -/
structure En where
  k : ByteArray
  c : Int
  n : Int
  v : ByteArray
  d : Bool
theorem ret_bool {a b : Bool} (h : a = b) : Ending.returned (.bool a) = .returned (.bool b) := by rw [h]
theorem cell_in {W W' : World} {p : Addr} {v : Value} (h : W.cell? p = some v) (b : Below W.heap.size W W') : W'.cell? p = some v :=
  (World.cell?_of_block (w := W) (b.block p.block (World.block_lt_of_cell? W _ h))).trans h
/-- The two cells of a sum's block. -/
theorem pair {w : World} {i : Nat} {a b : Value} {T : TypeId} (h : w.heap[i]? = some (.cells #[a, b] T (0, 0))) :
    w.cell? ⟨i, 0, none⟩ = some a ∧ w.cell? ⟨i, 1, none⟩ = some b ∧ w.frozen? ⟨i, 0, none⟩ = false ∧ w.frozen? ⟨i, 1, none⟩ = false :=
  ⟨by simp [World.cell?, h], by simp [World.cell?, h], frozen_of_row w i 0 _ _ h, frozen_of_row w i 1 _ _ h⟩
/-- What is kept of the world in a loop over a sum's two elements: own blocks from n on. -/
structure Two (w wr : World) (i : Nat) (a b : Int) : Prop where
  below : Below w.heap.size w wr
  low : w.heap.size ≤ i
  blk : wr.heap[i]? = some (.cells #[.int .u64 a, .int .u64 b] 30 (0, 0))
end Go.Proofs.YtpbkjffiohfkcaaDoor
namespace Go.Proofs.YtpbkjffiohfkcaaDoor
open Go.RowKit
set_option linter.unusedVariables false
/-- The table of lanes, cell for cell. -/
structure Lanes (w : World) : Prop where
  c0 : w.cell? ⟨0, 0, none⟩ = some (.int .u64 2611923443488327891)
  c1 : w.cell? ⟨0, 1, none⟩ = some (.int .u64 11400714819323198485)
  c2 : w.cell? ⟨0, 2, none⟩ = some (.int .u64 29)
  c3 : w.cell? ⟨0, 3, none⟩ = some (.int .u64 1376283091369227076)
  c4 : w.cell? ⟨0, 4, none⟩ = some (.int .u64 14029467366897019727)
  c5 : w.cell? ⟨0, 5, none⟩ = some (.int .u64 32)
theorem Lanes.keep {w w' : World} (h : Lanes w) (b : Below w.heap.size w w') : Lanes w' :=
  ⟨cell_in h.c0 b, cell_in h.c1 b, cell_in h.c2 b, cell_in h.c3 b, cell_in h.c4 b, cell_in h.c5 b⟩
theorem Lanes.pos {w : World} (h : Lanes w) : 0 < w.heap.size := World.block_lt_of_cell? w _ h.c0
/-- The memory in the loop over a sum's elements. -/
def mix2 (w : World) (x0 x1 r0 r1 : Int) : World :=
  (w.alloc (.cells #[.int .u64 x0, .int .u64 x1] 30)).alloc (.cells #[.int .u64 r0, .int .u64 r1] 30)
theorem mix2_below (w : World) (x0 x1 r0 r1 : Int) : Below w.heap.size w (mix2 w x0 x1 r0 r1) := (bnew w _).alloc (by simp) _
def MixRel (w : World) (a0 a1 s0 s1 : Int) (i : Value) (wr : World) : Prop :=
  (i = .int .i64 0 ∧ wr = mix2 w a0 a1 0 0) ∨ (i = .int .i64 1 ∧ wr = (mix2 w s0 a1 0 0).drew.drew) ∨ (i = .int .i64 2 ∧ wr = (mix2 w s0 s1 0 0).drew.drew.drew.drew)
/-- One word mixed into a lane. -/
def mixI (f : Int) (s : Nat) (x u : Int) : Int :=
  bits .xor .u64 (IntKind.u64.wrap (bits .xor .u64 x u * f)) (IntKind.u64.wrap (bits .xor .u64 x u * f) / 2 ^ s)
set_option maxHeartbeats 1600000 in
set_option maxRecDepth 100000 in
theorem mixed_any (a0 a1 u : Int) (w : World) (L : Lanes w) :
    Calls Tryd.prog 67 #[.agg #[.int .u64 a0, .int .u64 a1], .int .u64 u] w fun e w' => e = .returned (.agg #[.int .u64 (mixI 11400714819323198485 29 a0 u), .int .u64 (mixI 14029467366897019727 32 a1 u)]) ∧ Below w.heap.size w w' := by
  have h0 := L.pos
  obtain ⟨c0, c1, c2, c3, c4, c5⟩ := L
  go_enter Tryd.func67, Tryd.ntmps67
  go_wp2
  go_loopw [6] (fun i wr => MixRel w a0 a1 (mixI 11400714819323198485 29 a0 u) (mixI 14029467366897019727 32 a1 u) i wr) (fun i _ => 2 - (intOf i).toNat)
  case atStart => exact .inl ⟨rfl, rfl⟩
  case round =>
    obtain ⟨rfl, rfl⟩ | ⟨rfl, rfl⟩ | ⟨rfl, rfl⟩ := hrel
    · unfold mix2
      go_wp2
      go_region
      go_wp2
      go_region
      go_wp2
      go_roundw
      case rel => exact .inr (.inl ⟨rfl, rfl⟩)
      case measure => simp [intOf]
    · unfold mix2
      go_wp2
      go_region
      go_wp2
      go_region
      go_wp2
      go_roundw
      case rel => exact .inr (.inr ⟨rfl, rfl⟩)
      case measure => simp [intOf]
    · unfold mix2
      go_wp2
      exact bodyPost_ret (v := .agg #[.int .u64 (mixI 11400714819323198485 29 a0 u), .int .u64 (mixI 14029467366897019727 32 a1 u)]) (by simp [results, Tryd.results67, go_sem]) rfl ⟨rfl, (mix2_below w _ _ _ _).drew.drew.drew.drew⟩
end Go.Proofs.YtpbkjffiohfkcaaDoor
namespace Go.Proofs.YtpbkjffiohfkcaaDoor
open Go.ChangeShapes Go.WideShapes Go.ChangeAt Go.RowKit
set_option linter.unusedVariables false
theorem own : ownKnob Tryd.prog.godebug = none := by kernel_rfl
theorem laidOut : laidOutB Tryd.prog = true := by kernel_rfl
theorem cellsVer : Tryd.prog.cellsOf 52 = 2 := by kernel_rfl
theorem cellsEnt : Tryd.prog.cellsOf 54 = 5 := by kernel_rfl
theorem bytesEnt : Tryd.prog.bytesOf 54 = 56 := by kernel_rfl
theorem cellsInt : Tryd.prog.cellsOf 3 = 1 := by kernel_rfl
theorem cellsStr : Tryd.prog.cellsOf 9 = 1 := by kernel_rfl
theorem cellsBool : Tryd.prog.cellsOf 4 = 1 := by kernel_rfl
theorem cellsU64 : Tryd.prog.cellsOf 28 = 1 := by kernel_rfl
theorem cellsUint : Tryd.prog.cellsOf 121 = 1 := by kernel_rfl
theorem cellsLane : Tryd.prog.cellsOf 123 = 3 := by kernel_rfl
theorem cellsLanes : Tryd.prog.cellsOf 124 = 6 := by kernel_rfl
theorem gLanes : Tryd.prog.globalNamed "tideline/mix.lanes" = some 0 := by kernel_rfl
theorem gLanesType : (Tryd.prog.globals[0]?).map (·.type) = some 124 := by kernel_rfl
variable {H : Type} {enc : TypeId × Value → H} {W : World}
set_option maxRecDepth 100000 in
/-- One row of the table, from its reading. -/
theorem lane_cells {b0 : Nat} {sp : Nat → Bool} {held : Bool} {fuel : Nat} {cs : List Value} {a f s : Int} {p : List MemPlace} (h : DataW.trod enc Tryd.prog W b0 sp held fuel 123 cs = some ((.agg [.lit (.int .u64 a), .lit (.int .u64 f), .lit (.int .u64 s)] : DataW H), p)) :
    cs = [.int .u64 a, .int .u64 f, .int .u64 s] := by
  obtain ⟨y0, y1, y2, m, hx, hl, h0, h1, h2⟩ := Deep.trod_struct3 Tryd.underlying123 h
  rw [cellsLane] at hl
  match cs, hl with
  | [v0, v1, v2], _ =>
    simp [cellsU64, cellsUint] at h0 h1 h2
    obtain ⟨z0, e0, rfl, -⟩ := DataW.trod_int Tryd.underlying28 h0
    obtain ⟨z1, e1, rfl, -⟩ := DataW.trod_int Tryd.underlying28 h1
    obtain ⟨z2, e2, rfl, -⟩ := DataW.trod_int Tryd.underlying121 h2
    simp only [List.cons.injEq, and_true] at e0 e1 e2
    subst e0 e1 e2
    simp at hx
    obtain ⟨⟨rfl, rfl, rfl⟩, -⟩ := hx
    rfl
set_option maxRecDepth 100000 in
theorem lanes_of {W : World} (h : laidMet Tryd.prog [("tideline/mix.lanes", Rows.laid_tideline_mix_lanes)] W) : Lanes W := by
  obtain ⟨ps, ⟨g', t', cs, fuel, p, q, hg', ht', hvar, hd, _, _⟩, _⟩ := h
  obtain rfl := Option.some.inj (gLanes.symm.trans hg')
  obtain rfl := Option.some.inj (gLanesType.symm.trans ht')
  obtain ⟨xs, m, _, hx, hl, hxl, hel⟩ := DataW.trod_array Tryd.underlying124 hd
  rw [cellsLanes] at hl
  rw [cellsLane] at hel
  match xs, hxl with
  | [x0, x1], _ =>
    have g0 := hel 0 (by omega)
    have g1 := hel 1 (by omega)
    simp only [Rows.laid_tideline_mix_lanes, Prod.mk.injEq, List.map_cons, List.map_nil, DataW.agg.injEq, List.cons.injEq, and_true] at hx
    obtain ⟨⟨q0, q1⟩, -⟩ := hx
    have e0 := lane_cells (p := x0.2) (g0.trans (by rw [List.getElem?_cons_zero, q0]))
    have e1 := lane_cells (p := x1.2) (g1.trans (by rw [List.getElem?_cons_succ, List.getElem?_cons_zero, q1]))
    obtain ⟨l⟩ := cs
    match l, hl with
    | [v0, v1, v2, v3, v4, v5], _ =>
      simp at e0 e1
      obtain ⟨rfl, rfl, rfl⟩ := e0
      obtain ⟨rfl, rfl, rfl⟩ := e1
      exact ⟨World.var?_cell gLanes hvar 0, World.var?_cell gLanes hvar 1, World.var?_cell gLanes hvar 2, World.var?_cell gLanes hvar 3, World.var?_cell gLanes hvar 4, World.var?_cell gLanes hvar 5⟩
end Go.Proofs.YtpbkjffiohfkcaaDoor
namespace Go.Proofs.YtpbkjffiohfkcaaDoor
open Go.RowKit
end Go.Proofs.YtpbkjffiohfkcaaDoor
namespace Go.Proofs.YtpbkjffiohfkcaaDoor
open Go.RowKit
set_option linter.unusedVariables false
/-- The three cells of a tally's block. -/
theorem tri {w : World} {i : Nat} {a b c : Value} {T : TypeId} (h : w.heap[i]? = some (.cells #[a, b, c] T (0, 0))) :
    w.cell? ⟨i, 0, none⟩ = some a ∧ w.cell? ⟨i, 1, none⟩ = some b ∧ w.cell? ⟨i, 2, none⟩ = some c ∧ w.frozen? ⟨i, 0, none⟩ = false ∧ w.frozen? ⟨i, 1, none⟩ = false ∧ w.frozen? ⟨i, 2, none⟩ = false :=
  ⟨by simp [World.cell?, h], by simp [World.cell?, h], by simp [World.cell?, h], frozen_of_row w i 0 _ _ h, frozen_of_row w i 1 _ _ h, frozen_of_row w i 2 _ _ h⟩
/-- A store into another block. -/
theorem cell_apart {X : World} {i k : Nat} {p : Addr} {u v : Value} (h : X.cell? p = some v) (hne : p.block ≠ i) : (X.setCell ⟨i, k, none⟩ u).cell? p = some v :=
  (World.cell?_setCell_other _ _ _ _ (fun e => hne (by rw [← e]))).trans h
theorem sum_in9 (a b c d : Int) (w : World) : (Op.equalIn 9999 30 (.agg #[.int .u64 a, .int .u64 b]) (.agg #[.int .u64 c, .int .u64 d])).run Tryd.prog w = .ok (a == c && b == d) w := by
  have u3 := Tryd.underlying28
  have a3 := Tryd.isAgg28
  have z3 := Tryd.sizeOf28
  rw [show (9999 : Nat) = 9998 + 1 from rfl, Op.equalIn]
  simp only [Sem.run_bind, run_underlying Tryd.underlying30, Result.andThen_ok]
  simp only [Std.Legacy.Range.forIn_eq_forIn_range', Std.Legacy.Range.size, Nat.sub_zero, Nat.add_sub_cancel, Nat.div_one, List.range'_succ, List.range'_zero, List.forIn_cons, List.forIn_nil]
  go_simp
  by_cases h1 : a = c <;> by_cases h2 : b = d <;> simp [h1, h2]
theorem tal_in (n a b m c d : Int) (w : World) : (Op.equalIn 10000 32 (.agg #[.int .i64 n, .int .u64 a, .int .u64 b]) (.agg #[.int .i64 m, .int .u64 c, .int .u64 d])).run Tryd.prog w = .ok (n == m && (a == c && b == d)) w := by
  have e := sum_in9 a b c d w
  rw [show (10000 : Nat) = 9999 + 1 from rfl]
  go_simp
  by_cases h1 : n = m <;> by_cases h2 : a = c <;> by_cases h3 : b = d <;> simp [h1, h2, h3]
theorem tal_ne_run (n a b m c d : Int) (w : World) : (binOp .neq 32 (.agg #[.int .i64 n, .int .u64 a, .int .u64 b]) (.agg #[.int .i64 m, .int .u64 c, .int .u64 d])).run Tryd.prog w = .ok (.bool (!(n == m && (a == c && b == d)))) w := by
  rw [run_neq_struct, tal_in]; rfl
theorem tal_ne_same (n a b : Int) (w : World) : (binOp .neq 32 (.agg #[.int .i64 n, .int .u64 a, .int .u64 b]) (.agg #[.int .i64 n, .int .u64 a, .int .u64 b])).run Tryd.prog w = .ok (.bool false) w := by
  rw [tal_ne_run]; simp
end Go.Proofs.YtpbkjffiohfkcaaDoor
namespace Go.Proofs.YtpbkjffiohfkcaaDoor
open Go.RowKit
set_option linter.unusedVariables false
/-- How often a join was called: the meter in the block c says so. -/
def CntE (c : Option Nat) (n : Nat) (w : World) : Prop := ∀ b : Nat, c = some b → w.heap[b]? = some (.cells #[.int .i64 (IntKind.i64.wrap (n : Int))] 96 (0, 0))
theorem CntE.drew {c : Option Nat} {n : Nat} {w : World} (h : CntE c n w) : CntE c n w.drew := h
theorem CntE.alloc {c : Option Nat} {n : Nat} {w : World} (h : CntE c n w) (o : Obj) : CntE c n (w.alloc o) := fun b e => blk_on (h b e) (bnew _ _)
theorem CntE.keep {S : Nat → Prop} {c : Option Nat} {n : Nat} {w w' : World} (h : CntE c n w) (k : Keeps S w w') (hS : ∀ b, c = some b → ¬ S b) : CntE c n w' := fun b e => blk_keep (h b e) k (hS b e)
theorem CntE.below {c : Option Nat} {n : Nat} {w w' : World} (h : CntE c n w) (k : Below w.heap.size w w') : CntE c n w' := fun b e => blk_on (h b e) k
theorem CntE.apart {c : Option Nat} {n : Nat} {w : World} (h : CntE c n w) {i : Nat} {cs : Array Value} {T : TypeId} (hi : w.heap[i]? = some (.cells cs T (0, 0))) (hT : T ≠ 96) : ¬ OnC c i := fun e => by
  have := h i e
  rw [hi] at this
  injection this with this
  injection this with _ e2
  exact hT e2
theorem CntE.setCell {c : Option Nat} {n : Nat} {w : World} (h : CntE c n w) {p : Addr} (u : Value) (hp : ¬ OnC c p.block) : CntE c n (w.setCell p u) := fun b e => by
  rw [heap_setCell_other]
  · exact h b e
  · intro e2; exact hp (by show c = some p.block; rw [e, e2])
theorem CntE.lt {c : Option Nat} {n : Nat} {w : World} (h : CntE c n w) {i : Nat} (hi : w.heap.size ≤ i) : ¬ OnC c i := fun e => by
  have := lt_of_blk (h i e)
  omega
theorem Stay.onE {T : TypeId} {a b d : World} {c : Option Nat} {n : Nat} (h : Stay T a b) (hc : CntE c n b) (k : Keeps (OnC c) b d) (hT : T ≠ 96) : Stay T a d := h.keeps k (fun _ _ e => hc.apart e hT)
/-- A tally. -/
structure Tl where
  N : Int64
  A : UInt64
  B : UInt64
def Tl.n (t : Tl) : Int := t.N.toInt
def Tl.a (t : Tl) : Int := (t.A.toNat : Int)
def Tl.b (t : Tl) : Int := (t.B.toNat : Int)
def tZero : Tl := ⟨0, 0, 0⟩
def tJoin (f g : Tl) : Tl := ⟨f.N + g.N, f.A + g.A, f.B + g.B⟩
/-- What a tally takes beside its row: nothing that is counted. -/
def tSz (_ : Tl) : Nat := 0
theorem tSz_le (a b : Tl) : tSz (tJoin a b) ≤ tSz a + tSz b := Nat.le_refl _
theorem tZero_n : tZero.n = 0 := rfl
theorem tZero_a : tZero.a = 0 := rfl
theorem tZero_b : tZero.b = 0 := rfl
theorem tJoin_n (f g : Tl) : IntKind.i64.wrap (f.n + g.n) = (tJoin f g).n := by
  show _ = (f.N + g.N).toInt
  rw [Int64.toInt_add, IntKind.wrap_i64, Int.bmod_def]
  unfold Tl.n
  split <;> omega
theorem tJoin_a (f g : Tl) : IntKind.u64.wrap (f.a + g.a) = (tJoin f g).a := u64_add _ _
theorem tJoin_b (f g : Tl) : IntKind.u64.wrap (f.b + g.b) = (tJoin f g).b := u64_add _ _
theorem tJoin_assoc (a b c : Tl) : tJoin (tJoin a b) c = tJoin a (tJoin b c) := by
  simp only [tJoin, Tl.mk.injEq]
  exact ⟨Int64.add_assoc _ _ _, UInt64.add_assoc _ _ _, UInt64.add_assoc _ _ _⟩
/-- An entry that is none. -/
def eNone : En := ⟨⟨#[]⟩, 0, 0, ⟨#[]⟩, false⟩
/-- The five cells of an entry's block. -/
theorem penta {w : World} {i : Nat} {a b c d e : Value} {T : TypeId} (h : w.heap[i]? = some (.cells #[a, b, c, d, e] T (0, 0))) :
    w.cell? ⟨i, 0, none⟩ = some a ∧ w.cell? ⟨i, 1, none⟩ = some b ∧ w.cell? ⟨i, 2, none⟩ = some c ∧ w.cell? ⟨i, 3, none⟩ = some d ∧ w.cell? ⟨i, 4, none⟩ = some e ∧ w.frozen? ⟨i, 0, none⟩ = false ∧ w.frozen? ⟨i, 1, none⟩ = false ∧ w.frozen? ⟨i, 2, none⟩ = false ∧ w.frozen? ⟨i, 3, none⟩ = false ∧ w.frozen? ⟨i, 4, none⟩ = false :=
  ⟨by simp [World.cell?, h], by simp [World.cell?, h], by simp [World.cell?, h], by simp [World.cell?, h], by simp [World.cell?, h], frozen_of_row w i 0 _ _ h, frozen_of_row w i 1 _ _ h, frozen_of_row w i 2 _ _ h, frozen_of_row w i 3 _ _ h, frozen_of_row w i 4 _ _ h⟩
/-- Three cells of a block set. -/
def set3 (W : World) (g : Nat) (y : Tl) : World := ((W.setCell ⟨g, 0, none⟩ (.int .i64 y.n)).setCell ⟨g, 1, none⟩ (.int .u64 y.a)).setCell ⟨g, 2, none⟩ (.int .u64 y.b)
theorem set3_same {W : World} {g : Nat} {x0 x1 x2 : Value} (h : W.heap[g]? = some (.cells #[x0, x1, x2] 32 (0, 0))) (y : Tl) : (set3 W g y).heap[g]? = some (.cells #[.int .i64 y.n, .int .u64 y.a, .int .u64 y.b] 32 (0, 0)) := by
  have h1 := heap_setCell_same W g 0 _ _ (.int .i64 y.n) h
  have h2 := heap_setCell_same _ g 1 _ _ (.int .u64 y.a) h1
  exact heap_setCell_same _ g 2 _ _ (.int .u64 y.b) h2
theorem set3_other (W : World) (g k : Nat) (y : Tl) (h : k ≠ g) : (set3 W g y).heap[k]? = W.heap[k]? := by
  unfold set3
  rw [heap_setCell_other _ _ _ _ h, heap_setCell_other _ _ _ _ h, heap_setCell_other _ _ _ _ h]
theorem set3_cell {W : World} {g : Nat} {p : Addr} {v : Value} (y : Tl) (h : W.cell? p = some v) (hne : p.block ≠ g) : (set3 W g y).cell? p = some v := by
  unfold set3
  rw [World.cell?_setCell_other _ _ _ _ (fun e => hne (by rw [← e])), World.cell?_setCell_other _ _ _ _ (fun e => hne (by rw [← e])), World.cell?_setCell_other _ _ _ _ (fun e => hne (by rw [← e]))]
  exact h
theorem Keeps.set3 {S : Nat → Prop} {a w : World} (h : Keeps S a w) {g : Nat} (hg : g < a.heap.size → S g) (y : Tl) : Keeps S a (set3 w g y) :=
  ((h.setCell (p := ⟨g, 0, none⟩) hg _).setCell (p := ⟨g, 1, none⟩) hg _).setCell (p := ⟨g, 2, none⟩) hg _
theorem CntE.set3 {c : Option Nat} {n : Nat} {w : World} (h : CntE c n w) {g : Nat} (hg : ¬ OnC c g) (y : Tl) : CntE c n (set3 w g y) :=
  ((h.setCell (p := ⟨g, 0, none⟩) _ hg).setCell (p := ⟨g, 1, none⟩) _ hg).setCell (p := ⟨g, 2, none⟩) _ hg
theorem Stay.set3 {T : TypeId} {a b : World} (h : Stay T a b) {g : Nat} {x0 x1 x2 : Value} (hg : b.heap[g]? = some (.cells #[x0, x1, x2] 32 (0, 0))) (hT : T ≠ 32) (y : Tl) : Stay T a (set3 b g y) := fun i cs e => by
  have e1 := h i cs e
  rw [set3_other]
  · exact e1
  · rintro rfl; rw [hg] at e1; simp at e1; exact hT e1.2.symm
end Go.Proofs.YtpbkjffiohfkcaaDoor
namespace Go.Proofs.YtpbkjffiohfkcaaDoor
open Go.RowKit
set_option linter.unusedVariables false
namespace Tr
variable {β α : Type}
def hangC (l r : Tr β α) : Nat := (if l.isNil then 0 else 1) + (if r.isNil then 0 else 1)
def turnRC (l r : Tr β α) : Nat :=
  match l with
  | nil => 0
  | node ll _ _ _ lr =>
    if lr.ht ≤ ll.ht then hangC lr r + (if ll.isNil then 1 else 2) else
      match lr with
      | nil => 0
      | node a _ _ _ b => hangC ll a + hangC b r + 2
def turnLC (l r : Tr β α) : Nat :=
  match r with
  | nil => 0
  | node rl _ _ _ rr =>
    if rl.ht ≤ rr.ht then hangC l rl + (if rr.isNil then 1 else 2) else
      match rl with
      | nil => 0
      | node a _ _ _ b => hangC l a + hangC b rr + 2
def levelC (l r : Tr β α) : Nat := if l.ht = r.ht + 2 then turnRC l r else if r.ht = l.ht + 2 then turnLC l r else hangC l r
end Tr
end Go.Proofs.YtpbkjffiohfkcaaDoor
namespace Go.Proofs.YtpbkjffiohfkcaaDoor
open Go.RowKit
set_option linter.unusedVariables false
namespace Tr
variable {β α : Type}
/-- The trees on the way down to k, without the last one. -/
def path (k : ByteArray) : Tr β α → List (Tr β α)
  | nil => []
  | node l k' v s r => if kLt k k' then node l k' v s r :: path k l else if kLt k' k then node l k' v s r :: path k r else []
/-- The tree at the end of the way. -/
def found (k : ByteArray) : Tr β α → Tr β α
  | nil => nil
  | node l k' v s r => if kLt k k' then found k l else if kLt k' k then found k r else node l k' v s r
/-- How many rows have a lower key. -/
def lower (k : ByteArray) : Tr β α → Nat
  | nil => 0
  | node l k' v s r => if kLt k k' then lower k l else if kLt k' k then l.cnt + 1 + lower k r else l.cnt
theorem path_le (k : ByteArray) : ∀ t : Tr β α, (path k t).length ≤ t.ht
  | nil => Nat.le_refl _
  | node l k' v s r => by
    have h1 := path_le k l
    have h2 := path_le k r
    simp only [path, ht]
    split
    · simp only [List.length_cons]; omega
    · split
      · simp only [List.length_cons]; omega
      · simp
/-- What the row becomes at the end of the way. -/
def base (k : ByteArray) (v : β) (s : α) (t : Tr β α) : Tr β α :=
  match t with
  | nil => node nil k v s nil
  | node l _ _ _ r => node l k v s r
/-- One step back up. -/
def step (k : ByteArray) (t made : Tr β α) : Tr β α :=
  match t with
  | nil => made
  | node l k' v' s' r => if kLt k k' then level k' v' s' made r else level k' v' s' l made
def stepC (k : ByteArray) (t made : Tr β α) : Nat :=
  match t with
  | nil => 0
  | node l k' v' s' r => if kLt k k' then levelC made r else levelC l made
/-- All the way back up, the trees as they come. -/
def ups (k : ByteArray) (made : Tr β α) (l : List (Tr β α)) : Tr β α := l.foldl (fun m t => step k t m) made
def upsC (k : ByteArray) (made : Tr β α) : List (Tr β α) → Nat
  | [] => 0
  | t :: l => stepC k t made + upsC k (step k t made) l
theorem ups_snoc (k : ByteArray) (made : Tr β α) (l : List (Tr β α)) (t : Tr β α) : ups k made (l ++ [t]) = step k t (ups k made l) := by simp [ups]
theorem upsC_snoc (k : ByteArray) : ∀ (l : List (Tr β α)) (made t : Tr β α), upsC k made (l ++ [t]) = upsC k made l + stepC k t (ups k made l)
  | [], made, t => by simp [upsC, ups]
  | x :: l, made, t => by
    have := upsC_snoc k l (step k x made) t
    simp only [List.cons_append, upsC, this, ups, List.foldl_cons]
    omega
theorem put_ups (k : ByteArray) (v : β) (s : α) : ∀ t : Tr β α, ups k (base k v s (found k t)) (path k t).reverse = put k v s t
  | nil => rfl
  | node l k' v' s' r => by
    have h1 := put_ups k v s l
    have h2 := put_ups k v s r
    simp only [path, found, put]
    split
    · rename_i h
      rw [List.reverse_cons, ups_snoc, h1]
      simp [step, h]
    · rename_i h
      split
      · rw [List.reverse_cons, ups_snoc, h2]
        simp [step, h]
      · rfl
theorem wt_step (z : α → Nat) (k : ByteArray) (t made : Tr β α) : (step k t made).wt z ≤ t.wt z + made.wt z := by
  unfold step
  split
  · omega
  · split
    · rw [wt_level]; simp only [wt]; omega
    · rw [wt_level]; simp only [wt]; omega
theorem wt_ups (z : α → Nat) (k : ByteArray) (M : Nat) : ∀ (l : List (Tr β α)) (made : Tr β α), (∀ t ∈ l, t.wt z ≤ M) → (ups k made l).wt z ≤ made.wt z + l.length * M
  | [], made, _ => by simp [ups]
  | t :: l, made, h => by
    have h1 := wt_ups z k M l (step k t made) (fun x hx => h x (List.mem_cons_of_mem _ hx))
    have h2 := wt_step z k t made
    have h3 := h t List.mem_cons_self
    simp only [ups, List.foldl_cons, List.length_cons] at h1 ⊢
    rw [Nat.succ_mul]
    omega
theorem wt_path (z : α → Nat) (k : ByteArray) : ∀ (t x : Tr β α), x ∈ path k t → x.wt z ≤ t.wt z
  | nil, x, h => by simp [path] at h
  | node l k' v s r, x, h => by
    have h1 := wt_path z k l x
    have h2 := wt_path z k r x
    simp only [path] at h
    split at h
    · rcases List.mem_cons.1 h with rfl | h
      · exact Nat.le_refl _
      · have := h1 h; simp only [wt]; omega
    · split at h
      · rcases List.mem_cons.1 h with rfl | h
        · exact Nat.le_refl _
        · have := h2 h; simp only [wt]; omega
      · cases h
theorem wt_found (z : α → Nat) (k : ByteArray) : ∀ t : Tr β α, (found k t).wt z ≤ t.wt z
  | nil => Nat.le_refl _
  | node l k' v s r => by
    have h1 := wt_found z k l
    have h2 := wt_found z k r
    simp only [found]
    split
    · simp only [wt]; omega
    · split
      · simp only [wt]; omega
      · exact Nat.le_refl _
theorem path_node (k : ByteArray) : ∀ (t x : Tr β α), x ∈ path k t → x.isNil = false
  | nil, x, h => by simp [path] at h
  | node l k' v s r, x, h => by
    have h1 := path_node k l x
    have h2 := path_node k r x
    simp only [path] at h
    split at h
    · rcases List.mem_cons.1 h with rfl | h
      · rfl
      · exact h1 h
    · split at h
      · rcases List.mem_cons.1 h with rfl | h
        · rfl
        · exact h2 h
      · cases h
/-- How often a Put joins. -/
def putC (k : ByteArray) (v : β) (s : α) (t : Tr β α) : Nat :=
  (match found k t with
    | nil => 0
    | node l _ _ _ r => hangC l r) + upsC k (base k v s (found k t)) (path k t).reverse
end Tr
end Go.Proofs.YtpbkjffiohfkcaaDoor
namespace Go.Proofs.YtpbkjffiohfkcaaDoor
open Go.RowKit
set_option linter.unusedVariables false
namespace Tr
variable {β α : Type}
def val (z : β) : Tr β α → β
  | nil => z
  | node _ _ v _ _ => v
def key : Tr β α → ByteArray
  | nil => ⟨#[]⟩
  | node _ k _ _ _ => k
/-- The fold of the rows from i on below j. -/
def fld (J : α → α → α) (e : α) : Tr β α → Nat → Nat → α
  | nil, _, _ => e
  | node l k v s r, i, j =>
    if i = 0 ∧ j = (node l k v s r).cnt then (node l k v s r).sum J e else
    if j ≤ l.cnt then fld J e l i j else
    if l.cnt < i then fld J e r (i - l.cnt - 1) (j - l.cnt - 1) else
    if l.cnt + 1 < j then J (if i < l.cnt then J (fld J e l i l.cnt) s else s) (fld J e r 0 (j - l.cnt - 1)) else (if i < l.cnt then J (fld J e l i l.cnt) s else s)
/-- How often it joins. -/
def fldC : Tr β α → Nat → Nat → Nat
  | nil, _, _ => 0
  | node l k v s r, i, j =>
    if i = 0 ∧ j = (node l k v s r).cnt then 0 else
    if j ≤ l.cnt then fldC l i j else
    if l.cnt < i then fldC r (i - l.cnt - 1) (j - l.cnt - 1) else
    (if i < l.cnt then fldC l i l.cnt + 1 else 0) + (if l.cnt + 1 < j then fldC r 0 (j - l.cnt - 1) + 1 else 0)
theorem fldC_full (t : Tr β α) : fldC t 0 t.cnt = 0 := by
  cases t with
  | nil => rfl
  | node l k v s r => simp [fldC]
theorem fldC_tail' : ∀ (t : Tr β α) (i j : Nat), j = t.cnt → fldC t i j ≤ 2 * t.ht
  | nil, i, j, _ => by simp [fldC]
  | node l k v s r, i, j, hj => by
    have h1 := fldC_tail' l i l.cnt rfl
    have h2 := fldC_tail' r (i - l.cnt - 1) (j - l.cnt - 1) (by simp only [cnt] at hj; omega)
    have h3 : fldC r 0 (j - l.cnt - 1) = 0 := by
      rw [show j - l.cnt - 1 = r.cnt from by simp only [cnt] at hj; omega]; exact fldC_full r
    simp only [fldC, ht]
    split
    · omega
    · split
      · simp only [cnt] at hj; omega
      · split
        · omega
        · rw [h3]; split <;> split <;> omega
theorem fldC_tail (t : Tr β α) (i : Nat) : fldC t i t.cnt ≤ 2 * t.ht := fldC_tail' t i _ rfl
theorem fldC_head : ∀ (t : Tr β α) (j : Nat), fldC t 0 j ≤ 2 * t.ht
  | nil, j => by simp [fldC]
  | node l k v s r, j => by
    have h1 := fldC_head l j
    have h2 := fldC_head r (j - l.cnt - 1)
    have h3 := fldC_full l
    simp only [fldC, ht]
    split
    · omega
    · split
      · omega
      · split
        · omega
        · rw [h3]; split <;> split <;> omega
theorem fldC_le : ∀ (t : Tr β α) (i j : Nat), fldC t i j ≤ 4 * t.ht
  | nil, i, j => by simp [fldC]
  | node l k v s r, i, j => by
    have h1 := fldC_le l i j
    have h2 := fldC_le r (i - l.cnt - 1) (j - l.cnt - 1)
    have h3 := fldC_tail l i
    have h4 := fldC_head r (j - l.cnt - 1)
    simp only [fldC, ht]
    split
    · omega
    · split
      · omega
      · split
        · omega
        · split <;> split <;> omega
theorem fld_le {z : α → Nat} {J : α → α → α} (hJ : ∀ a b, z (J a b) ≤ z a + z b) (e : α) : ∀ (t : Tr β α) (i j : Nat), i < j → j ≤ t.cnt → z (fld J e t i j) ≤ t.wt z
  | nil, i, j, h1, h2 => by simp [cnt] at h2; omega
  | node l k v s r, i, j, h1, h2 => by
    have hs := sum_le hJ e (node l k v s r) rfl
    have a1 := fld_le hJ e l i j h1
    have a2 : l.cnt < i → z (fld J e r (i - l.cnt - 1) (j - l.cnt - 1)) ≤ r.wt z := fun h => fld_le hJ e r _ _ (by omega) (by simp only [cnt] at h2; omega)
    have a3 : i < l.cnt → z (fld J e l i l.cnt) ≤ l.wt z := fun h => fld_le hJ e l _ _ h (Nat.le_refl _)
    have a4 : l.cnt + 1 < j → z (fld J e r 0 (j - l.cnt - 1)) ≤ r.wt z := fun h => fld_le hJ e r _ _ (by omega) (by simp only [cnt] at h2; omega)
    have a5 : i < l.cnt → z (J (fld J e l i l.cnt) s) ≤ l.wt z + z s := fun h => by have := hJ (fld J e l i l.cnt) s; have := a3 h; omega
    simp only [fld]
    split
    · exact hs
    · simp only [wt]
      split
      · have := a1 (by assumption); omega
      · split
        · have := a2 (by assumption); omega
        · split
          · rename_i g
            have b1 := a4 g
            split
            · rename_i g2
              have := hJ (J (fld J e l i l.cnt) s) (fld J e r 0 (j - l.cnt - 1))
              have := a5 g2
              omega
            · have := hJ s (fld J e r 0 (j - l.cnt - 1))
              omega
          · split
            · rename_i g2
              have := a5 g2
              omega
            · omega
/-- Fold, as it is asked. -/
def fol (J : α → α → α) (e : α) (t : Tr β α) (i j : Int) : α := if max i 0 < min j (t.cnt : Int) then fld J e t (max i 0).toNat (min j (t.cnt : Int)).toNat else e
def folC (t : Tr β α) (i j : Int) : Nat := if max i 0 < min j (t.cnt : Int) then fldC t (max i 0).toNat (min j (t.cnt : Int)).toNat else 0
theorem folC_le (t : Tr β α) (i j : Int) : folC t i j ≤ 4 * t.ht := by
  unfold folC
  split
  · exact fldC_le _ _ _
  · omega
theorem fol_eq (J : α → α → α) (e : α) (t : Tr β α) (i j : Int) {i' j' : Int} (hi : max i 0 = i') (hj : min j (t.cnt : Int) = j') : fol J e t i j = if i' < j' then fld J e t i'.toNat j'.toNat else e := by subst hi hj; rfl
theorem folC_eq (t : Tr β α) (i j : Int) {i' j' : Int} (hi : max i 0 = i') (hj : min j (t.cnt : Int) = j') : folC t i j = if i' < j' then fldC t i'.toNat j'.toNat else 0 := by subst hi hj; rfl
end Tr
end Go.Proofs.YtpbkjffiohfkcaaDoor
namespace Go.Proofs.YtpbkjffiohfkcaaDoor
open Go.RowKit
set_option linter.unusedVariables false
variable {β α : Type}
/-- Keys rise. -/
def Rises (l : List (Rw β α)) : Prop := l.Pairwise (fun a b => kLt a.k b.k = true)
/-- A row put into a sorted list. -/
def ins (k : ByteArray) (v : β) (s : α) : List (Rw β α) → List (Rw β α)
  | [] => [⟨k, v, s⟩]
  | y :: l => if kLt k y.k then ⟨k, v, s⟩ :: y :: l else if kLt y.k k then y :: ins k v s l else ⟨k, v, s⟩ :: l
theorem ins_left {k : ByteArray} {v : β} {s : α} {y : Rw β α} (B : List (Rw β α)) (h : kLt k y.k = true) : ∀ A : List (Rw β α), ins k v s (A ++ y :: B) = ins k v s A ++ y :: B
  | [] => by simp [ins, h]
  | a :: A => by
    simp only [List.cons_append, ins, ins_left B h A]
    split
    · rfl
    · split <;> rfl
theorem ins_right {k : ByteArray} {v : β} {s : α} : ∀ (A B : List (Rw β α)), (∀ a ∈ A, kLt a.k k = true) → ins k v s (A ++ B) = A ++ ins k v s B
  | [], B, _ => rfl
  | a :: A, B, h => by
    have h1 := h a List.mem_cons_self
    simp only [List.cons_append, ins, kLt_asymm h1, h1, if_true, if_false, Bool.false_eq_true, ins_right A B (fun x hx => h x (List.mem_cons_of_mem _ hx))]
theorem ins_same {k : ByteArray} {v : β} {s : α} {y : Rw β α} (A B : List (Rw β α)) (hA : ∀ a ∈ A, kLt a.k k = true) (h1 : kLt k y.k = false) (h2 : kLt y.k k = false) : ins k v s (A ++ y :: B) = A ++ ⟨k, v, s⟩ :: B := by
  rw [ins_right A _ hA]; simp [ins, h1, h2]
theorem rises_parts {A B : List (Rw β α)} {y : Rw β α} (h : Rises (A ++ y :: B)) : Rises A ∧ Rises B ∧ (∀ a ∈ A, kLt a.k y.k = true) ∧ (∀ b ∈ B, kLt y.k b.k = true) ∧ (∀ a ∈ A, ∀ b ∈ B, kLt a.k b.k = true) := by
  unfold Rises at *
  rw [List.pairwise_append, List.pairwise_cons] at h
  exact ⟨h.1, h.2.1.2, fun a ha => h.2.2 a ha y List.mem_cons_self, h.2.1.1, fun a ha b hb => h.2.2 a ha b (List.mem_cons_of_mem _ hb)⟩
theorem rows_put (k : ByteArray) (v : β) (s : α) : ∀ t : Tr β α, Rises t.rows → (Tr.put k v s t).rows = ins k v s t.rows
  | .nil, _ => rfl
  | .node l k' v' s' r, h => by
    obtain ⟨h1, h2, h3, h4, _⟩ := rises_parts h
    simp only [Tr.put, Tr.rows]
    cases q1 : kLt k k'
    · cases q2 : kLt k' k
      · simp only [Bool.false_eq_true, if_false, Tr.rows]
        rw [ins_same l.rows r.rows (fun a ha => kLt_trans_le (h3 a ha) q1) q1 q2]
      · simp only [Bool.false_eq_true, if_false, if_true]
        rw [Tr.rows_level, rows_put k v s r h2, ins_right l.rows _ (fun a ha => kLt_trans (h3 a ha) q2)]
        simp [ins, q1, q2]
    · simp only [if_true]
      rw [Tr.rows_level, rows_put k v s l h1, ins_left r.rows q1]
theorem ins_mem {k : ByteArray} {v : β} {s : α} : ∀ (l : List (Rw β α)) (x : Rw β α), x ∈ ins k v s l → x = ⟨k, v, s⟩ ∨ x ∈ l
  | [], x, h => by simp [ins] at h; exact .inl h
  | y :: l, x, h => by
    simp only [ins] at h
    split at h
    · rcases List.mem_cons.1 h with h | h
      · exact .inl h
      · exact .inr h
    · split at h
      · rcases List.mem_cons.1 h with h | h
        · exact .inr (h ▸ List.mem_cons_self)
        · rcases ins_mem l x h with h | h
          · exact .inl h
          · exact .inr (List.mem_cons_of_mem _ h)
      · rcases List.mem_cons.1 h with h | h
        · exact .inl h
        · exact .inr (List.mem_cons_of_mem _ h)
theorem rises_ins {k : ByteArray} {v : β} {s : α} : ∀ l : List (Rw β α), Rises l → Rises (ins k v s l)
  | [], _ => by simp [ins, Rises]
  | y :: l, h => by
    have h' := h
    unfold Rises at h'
    rw [List.pairwise_cons] at h'
    obtain ⟨h1, h2⟩ := h'
    simp only [ins]
    split
    · rename_i q
      unfold Rises
      rw [List.pairwise_cons]
      refine ⟨fun b hb => ?_, h⟩
      rcases List.mem_cons.1 hb with rfl | hb
      · exact q
      · exact kLt_trans q (h1 b hb)
    · rename_i q
      split
      · rename_i q2
        unfold Rises
        rw [List.pairwise_cons]
        refine ⟨fun b hb => ?_, rises_ins l h2⟩
        rcases ins_mem l b hb with rfl | hb
        · exact q2
        · exact h1 b hb
      · rename_i q2
        unfold Rises
        rw [List.pairwise_cons]
        refine ⟨fun b hb => ?_, h2⟩
        have e : k = y.k := kLt_total (by simpa using q) (by simpa using q2)
        show kLt k b.k = true
        rw [e]; exact h1 b hb
/-- The row of a key. -/
def look (k : ByteArray) (l : List (Rw β α)) : Option (Rw β α) := l.find? (fun y => !kLt k y.k && !kLt y.k k)
/-- How many rows have a lower key. -/
def rankL (k : ByteArray) (l : List (Rw β α)) : Nat := (l.filter (fun y => kLt y.k k)).length
theorem look_none {k : ByteArray} {l : List (Rw β α)} (h : ∀ y ∈ l, kLt k y.k = true ∨ kLt y.k k = true) : look k l = none := by
  unfold look
  rw [List.find?_eq_none]
  intro y hy
  rcases h y hy with h | h <;> simp [h]
theorem look_found (k : ByteArray) : ∀ t : Tr β α, Rises t.rows → look k t.rows = match Tr.found k t with | .nil => none | .node _ k' v s _ => some ⟨k', v, s⟩
  | .nil, _ => rfl
  | .node l k' v' s' r, h => by
    obtain ⟨h1, h2, h3, h4, _⟩ := rises_parts h
    have il := look_found k l h1
    have ir := look_found k r h2
    simp only [Tr.found, Tr.rows]
    unfold look at il ir ⊢
    rw [List.find?_append]
    cases q1 : kLt k k'
    · cases q2 : kLt k' k
      · have e : k = k' := kLt_total q1 q2
        have : l.rows.find? (fun y => !kLt k y.k && !kLt y.k k) = none := look_none (fun y hy => .inr (by rw [e]; exact h3 y hy))
        rw [this]
        simp [q1, q2]
      · have : l.rows.find? (fun y => !kLt k y.k && !kLt y.k k) = none := look_none (fun y hy => .inr (kLt_trans (h3 y hy) q2))
        rw [this]
        simp only [Option.none_or, List.find?_cons, q1, q2, Bool.not_true, Bool.not_false, Bool.and_false, Bool.false_eq_true, if_false, if_true]
        exact ir
    · have : r.rows.find? (fun y => !kLt k y.k && !kLt y.k k) = none := look_none (fun y hy => .inl (kLt_trans q1 (h4 y hy)))
      simp only [List.find?_cons, q1, Bool.not_true, Bool.false_and, this, if_true, Option.or_none]
      exact il
theorem rank_all {k : ByteArray} : ∀ {l : List (Rw β α)}, (∀ y ∈ l, kLt y.k k = true) → rankL k l = l.length
  | [], _ => rfl
  | y :: l, h => by
    have := rank_all (l := l) (fun x hx => h x (List.mem_cons_of_mem _ hx))
    unfold rankL at *
    rw [List.filter_cons_of_pos (by simpa using h y List.mem_cons_self)]
    simp [this]
theorem rank_none {k : ByteArray} {l : List (Rw β α)} (h : ∀ y ∈ l, kLt y.k k = false) : rankL k l = 0 := by
  unfold rankL
  rw [List.filter_eq_nil_iff.2 (fun y hy => by simp [h y hy])]
  rfl
theorem rank_append (k : ByteArray) (A B : List (Rw β α)) : rankL k (A ++ B) = rankL k A + rankL k B := by
  unfold rankL; rw [List.filter_append, List.length_append]
theorem rank_cons (k : ByteArray) (y : Rw β α) (B : List (Rw β α)) : rankL k (y :: B) = (if kLt y.k k then 1 else 0) + rankL k B := by
  unfold rankL; rw [List.filter_cons]; split <;> simp <;> omega
theorem lower_rank (k : ByteArray) : ∀ t : Tr β α, Rises t.rows → Tr.lower k t = rankL k t.rows
  | .nil, _ => rfl
  | .node l k' v' s' r, h => by
    obtain ⟨h1, h2, h3, h4, _⟩ := rises_parts h
    have il := lower_rank k l h1
    have ir := lower_rank k r h2
    simp only [Tr.lower, Tr.rows]
    rw [rank_append, rank_cons]
    cases q1 : kLt k k'
    · cases q2 : kLt k' k
      · have e : k = k' := kLt_total q1 q2
        rw [rank_all (fun y hy => by rw [e]; exact h3 y hy), rank_none (fun y hy => by rw [e]; exact kLt_asymm (h4 y hy)), Tr.rows_length]
        simp
      · rw [rank_all (fun y hy => kLt_trans (h3 y hy) q2), Tr.rows_length, ir]
        simp
        omega
    · rw [rank_none (l := r.rows) (fun y hy => kLt_asymm (kLt_trans q1 (h4 y hy))), kLt_asymm q1, il]
      simp
/-- What a join must be. -/
structure Mon (J : α → α → α) (e : α) : Prop where
  assoc : ∀ a b c, J (J a b) c = J a (J b c)
  left : ∀ a, J e a = a
  right : ∀ a, J a e = a
/-- Summaries joined in their order. -/
def foldL (J : α → α → α) (e : α) (l : List (Rw β α)) : α := l.foldl (fun a y => J a y.s) e
theorem foldL_from {J : α → α → α} {e : α} (m : Mon J e) : ∀ (l : List (Rw β α)) (a : α), l.foldl (fun a y => J a y.s) a = J a (foldL J e l)
  | [], a => by simp [foldL, m.right]
  | y :: l, a => by
    have h1 := foldL_from m l (J a y.s)
    have h2 := foldL_from m l (J e y.s)
    unfold foldL at *
    rw [List.foldl_cons, List.foldl_cons, h1, h2, m.left, m.assoc]
theorem foldL_append {J : α → α → α} {e : α} (m : Mon J e) (A B : List (Rw β α)) : foldL J e (A ++ B) = J (foldL J e A) (foldL J e B) := by
  rw [← foldL_from m B (foldL J e A)]
  unfold foldL
  rw [List.foldl_append]
theorem foldL_cons {J : α → α → α} {e : α} (m : Mon J e) (y : Rw β α) (B : List (Rw β α)) : foldL J e (y :: B) = J y.s (foldL J e B) := by
  rw [← foldL_from m B y.s]
  unfold foldL
  rw [List.foldl_cons, m.left]
theorem foldL_nil {J : α → α → α} {e : α} : foldL J e ([] : List (Rw β α)) = e := rfl
theorem isNil_rows {t : Tr β α} (h : t.isNil = true) : t = .nil := by cases t; rfl; cases h
theorem sum_rows {J : α → α → α} {e : α} (m : Mon J e) : ∀ t : Tr β α, t.sum J e = foldL J e t.rows
  | .nil => rfl
  | .node l k v s r => by
    have hl := sum_rows m l
    have hr := sum_rows m r
    simp only [Tr.sum, Tr.rows]
    rw [foldL_append m, foldL_cons m, ← hl, ← hr]
    cases q1 : l.isNil <;> cases q2 : r.isNil
    · simp [m.assoc]
    · rw [isNil_rows q2]; simp [Tr.sum, m.right]
    · rw [isNil_rows q1]; simp [Tr.sum, m.left]
    · rw [isNil_rows q1, isNil_rows q2]; simp [Tr.sum, m.left, m.right]
/-- The rows from i on below j. -/
def seg (l : List (Rw β α)) (i j : Nat) : List (Rw β α) := (l.take j).drop i
theorem seg_full (l : List (Rw β α)) : seg l 0 l.length = l := by simp [seg]
theorem fld_rows {J : α → α → α} {e : α} (m : Mon J e) : ∀ (t : Tr β α) (i j : Nat), i < j → j ≤ t.cnt → Tr.fld J e t i j = foldL J e (seg t.rows i j)
  | .nil, i, j, h1, h2 => by simp [Tr.cnt] at h2; omega
  | .node l k v s r, i, j, h1, h2 => by
    have il := fld_rows m l
    have ir := fld_rows m r
    have hl := Tr.rows_length l
    have hr := Tr.rows_length r
    simp only [Tr.cnt] at h2
    simp only [Tr.fld]
    split
    · rename_i g
      rw [g.1, g.2, sum_rows m, ← Tr.rows_length, seg_full]
    · simp only [Tr.rows, seg]
      split
      · rename_i g
        rw [il i j h1 g, List.take_append_of_le_length (by omega)]
        rfl
      · rename_i g
        rw [List.take_append, List.take_of_length_le (show l.rows.length ≤ j from by omega), show j - l.rows.length = (j - l.cnt - 1) + 1 from by omega, List.take_succ_cons]
        split
        · rename_i g2
          rw [ir _ _ (by omega) (by omega), List.drop_append, List.drop_of_length_le (show l.rows.length ≤ i from by omega), show i - l.rows.length = (i - l.cnt - 1) + 1 from by omega]
          simp [seg]
        · rename_i g2
          rw [List.drop_append, show i - l.rows.length = 0 from by omega, List.drop_zero, foldL_append m, foldL_cons m]
          have a1 : (if i < l.cnt then J (Tr.fld J e l i l.cnt) s else s) = J (foldL J e (l.rows.drop i)) s := by
            split
            · rename_i g3
              rw [il i l.cnt g3 (Nat.le_refl _)]
              simp only [seg]
              rw [List.take_of_length_le (by omega)]
            · rename_i g3
              rw [List.drop_of_length_le (by omega), foldL_nil, m.left]
          rw [a1]
          split
          · rename_i g4
            rw [ir 0 _ (by omega) (by omega)]
            simp only [seg, List.drop_zero]
            exact m.assoc _ _ _
          · rename_i g4
            rw [show j - l.cnt - 1 = 0 from by omega, List.take_zero, foldL_nil, m.right]
theorem fol_rows {J : α → α → α} {e : α} (m : Mon J e) (t : Tr β α) (i j : Int) : Tr.fol J e t i j = foldL J e (seg t.rows (max i 0).toNat (min j (t.cnt : Int)).toNat) := by
  unfold Tr.fol
  split
  · exact fld_rows m t _ _ (by omega) (by omega)
  · rename_i h
    rw [show seg t.rows (max i 0).toNat (min j (t.cnt : Int)).toNat = [] from by
      unfold seg
      apply List.drop_of_length_le
      rw [List.length_take]
      omega]
    rfl
theorem fol_nat {J : α → α → α} {e : α} (m : Mon J e) (t : Tr β α) (i j : Nat) (hj : j ≤ t.cnt) : Tr.fol J e t (i : Int) (j : Int) = foldL J e (seg t.rows i j) := by
  rw [fol_rows m, show (max (i : Int) 0).toNat = i from by omega, show (min (j : Int) (t.cnt : Int)).toNat = j from by omega]
end Go.Proofs.YtpbkjffiohfkcaaDoor
namespace Go.Proofs.YtpbkjffiohfkcaaDoor
open Go.RowKit
set_option linter.unusedVariables false
variable {β α : Type}
theorem wt_put (z : α → Nat) (k : ByteArray) (v : β) (s : α) : ∀ t : Tr β α, (Tr.put k v s t).wt z ≤ t.wt z + 1 + z s
  | .nil => by simp [Tr.put, Tr.wt]
  | .node l k' v' s' r => by
    have h1 := wt_put z k v s l
    have h2 := wt_put z k v s r
    simp only [Tr.put]
    split
    · rw [Tr.wt_level]; simp only [Tr.wt]; omega
    · split
      · rw [Tr.wt_level]; simp only [Tr.wt]; omega
      · simp only [Tr.wt]; omega
/-- Balanced, rising, and holding no more than m. -/
structure Gd (z : α → Nat) (t : Tr β α) (m : Nat) : Prop where
  bal : t.bal
  rises : Rises t.rows
  wt : t.wt z ≤ m
theorem Gd.nil (z : α → Nat) : Gd z (.nil : Tr β α) 0 := ⟨trivial, List.Pairwise.nil, Nat.le_refl _⟩
theorem Gd.put {z : α → Nat} {t : Tr β α} {m : Nat} (h : Gd z t m) (k : ByteArray) (v : β) (s : α) : Gd z (Tr.put k v s t) (m + 1 + z s) :=
  ⟨(Tr.bal_put k v s t h.bal).1, by rw [rows_put k v s t h.rises]; exact rises_ins _ h.rises, by have := wt_put z k v s t; have := h.wt; omega⟩
theorem Gd.mono {z : α → Nat} {t : Tr β α} {m m' : Nat} (h : Gd z t m) (hm : m ≤ m') : Gd z t m' := ⟨h.bal, h.rises, Nat.le_trans h.wt hm⟩
theorem Gd.cnt {z : α → Nat} {t : Tr β α} {m : Nat} (h : Gd z t m) : t.cnt ≤ m := Nat.le_trans (Tr.cnt_le_wt z t) h.wt
theorem Gd.ht {z : α → Nat} {t : Tr β α} {m : Nat} (h : Gd z t m) (hm : m ≤ 281474976710655) : t.ht ≤ 97 := Tr.bal_ht h.bal (n := 48) (by have := h.cnt; omega)
theorem Gd.room {z : α → Nat} {t : Tr β α} {m x : Nat} (h : Gd z t m) (hm : m + 1 + x ≤ 281474976710655) : (t.ht + 2) * (t.wt z + 1 + x) ≤ 4611686018427387904 := by
  have h1 := h.ht (by omega)
  have h2 := h.wt
  have : (t.ht + 2) * (t.wt z + 1 + x) ≤ 99 * 281474976710655 := Nat.mul_le_mul (by omega) (by omega)
  omega
end Go.Proofs.YtpbkjffiohfkcaaDoor
namespace Go.Proofs.YtpbkjffiohfkcaaDoor
set_option linter.unusedVariables false
/-- Bytes as a number, the first byte the lowest one. -/
def leB : List UInt8 → Nat
  | [] => 0
  | b :: r => b.toNat + 256 * leB r
theorem leB_lt : ∀ l : List UInt8, leB l < 256 ^ l.length
  | [] => by simp [leB]
  | b :: r => by
    have h := leB_lt r
    have hb := b.toNat_lt
    simp only [leB, List.length_cons, Nat.pow_succ]
    omega
theorem leB_snoc (b : UInt8) : ∀ l : List UInt8, leB (l ++ [b]) = leB l + 256 ^ l.length * b.toNat
  | [] => by simp [leB]
  | a :: r => by
    simp only [List.cons_append, leB, leB_snoc b r, List.length_cons, Nat.pow_succ]
    rw [Nat.mul_add, Nat.add_assoc, ← Nat.mul_assoc, Nat.mul_comm 256 (256 ^ r.length)]
/-- The word that begins at byte m. -/
def wordN (k : List UInt8) (m : Nat) : Nat := leB ((k.drop m).take 8)
/-- The first j words of a key. -/
def keyW (k : List UInt8) (j : Nat) : List Int := (List.range j).map fun m => (wordN k (8 * m) : Int)
theorem keyW_succ (k : List UInt8) (j : Nat) : keyW k (j + 1) = keyW k j ++ [(wordN k (8 * j) : Int)] := by simp [keyW, List.range_succ]
theorem keyW_length (k : List UInt8) (j : Nat) : (keyW k j).length = j := by simp [keyW]
/-- How many words a key has. -/
def keyN (n : Nat) : Nat := (n + 7) / 8
/-- All words of a key and a version. -/
def wordsI (k : ByteArray) (c n : Int) : List Int := (k.size : Int) :: keyW k.data.toList (keyN k.size) ++ [IntKind.u64.wrap c, IntKind.u64.wrap n]
def lane0 (ws : List Int) : Int := ws.foldl (mixI 11400714819323198485 29) 2611923443488327891
def lane1 (ws : List Int) : Int := ws.foldl (mixI 14029467366897019727 32) 1376283091369227076
theorem lane0_snoc (ws : List Int) (u : Int) : lane0 (ws ++ [u]) = mixI 11400714819323198485 29 (lane0 ws) u := by simp [lane0]
theorem lane1_snoc (ws : List Int) (u : Int) : lane1 (ws ++ [u]) = mixI 14029467366897019727 32 (lane1 ws) u := by simp [lane1]
/-- What an entry comes to, lane by lane. -/
def of0 (k : ByteArray) (c n : Int) : Int := lane0 (wordsI k c n)
def of1 (k : ByteArray) (c n : Int) : Int := lane1 (wordsI k c n)
def ofV (k : ByteArray) (c n : Int) : Value := .agg #[.int .u64 (of0 k c n), .int .u64 (of1 k c n)]
theorem wordsI_snoc (k : ByteArray) (c n : Int) : wordsI k c n = (((k.size : Int) :: keyW k.data.toList (keyN k.size)) ++ [IntKind.u64.wrap c]) ++ [IntKind.u64.wrap n] := by simp [wordsI]
/-- The list that the document's loop has made of the first i bytes. -/
def doneW (k : List UInt8) (i : Nat) : List Int := keyW k (i / 8) ++ (if i % 8 = 0 then [] else [(leB ((k.drop (8 * (i / 8))).take (i % 8)) : Int)])
theorem doneW_zero (k : List UInt8) : doneW k 0 = [] := by simp [doneW, keyW]
theorem doneW_all (k : List UInt8) : doneW k k.length = keyW k (keyN k.length) := by
  unfold doneW keyN
  by_cases h : k.length % 8 = 0
  · rw [if_pos h, List.append_nil, show (k.length + 7) / 8 = k.length / 8 from by omega]
  · rw [if_neg h, show (k.length + 7) / 8 = k.length / 8 + 1 from by omega, keyW_succ]
    congr 3
    unfold wordN
    rw [List.take_of_length_le (by simp; omega), List.take_of_length_le (by simp; omega)]
/-- The part word at byte i, ahead of it and behind it. -/
def partN (k : List UInt8) (i : Nat) : Nat := leB ((k.drop (8 * (i / 8))).take (i % 8))
theorem partN_lt (k : List UInt8) (i : Nat) : partN k i < 256 ^ (i % 8) := by
  have h := leB_lt ((k.drop (8 * (i / 8))).take (i % 8))
  have hl : ((k.drop (8 * (i / 8))).take (i % 8)).length ≤ i % 8 := by simp; omega
  have : 256 ^ ((k.drop (8 * (i / 8))).take (i % 8)).length ≤ 256 ^ (i % 8) := Nat.pow_le_pow_right (by decide) hl
  unfold partN
  omega
theorem doneW_next (k : List UInt8) (i : Nat) (h : i < k.length) : doneW k (i + 1) = keyW k (i / 8) ++ [((partN k i + k[i].toNat * 256 ^ (i % 8) : Nat) : Int)] := by
  have hd : (k.drop (8 * (i / 8))).take (i % 8 + 1) = (k.drop (8 * (i / 8))).take (i % 8) ++ [k[i]] := by
    rw [List.take_add_one]
    congr 1
    rw [List.getElem?_drop, show 8 * (i / 8) + i % 8 = i from by omega, List.getElem?_eq_getElem h]
    rfl
  have hv : leB ((k.drop (8 * (i / 8))).take (i % 8 + 1)) = partN k i + k[i].toNat * 256 ^ (i % 8) := by
    rw [hd, leB_snoc, show ((k.drop (8 * (i / 8))).take (i % 8)).length = i % 8 from by rw [List.length_take, List.length_drop]; omega]
    unfold partN
    rw [Nat.mul_comm k[i].toNat]
  unfold doneW
  by_cases h7 : i % 8 = 7
  · rw [if_pos (by omega), List.append_nil, show (i + 1) / 8 = i / 8 + 1 from by omega, keyW_succ, ← hv, h7]
    rfl
  · rw [if_neg (by omega), show (i + 1) / 8 = i / 8 from by omega, show (i + 1) % 8 = i % 8 + 1 from by omega, hv]
theorem doneW_here (k : List UInt8) (i : Nat) (h : i % 8 ≠ 0) : doneW k i = keyW k (i / 8) ++ [(partN k i : Int)] := by
  unfold doneW
  rw [if_neg h]
  rfl
theorem doneW_edge (k : List UInt8) (i : Nat) (h : i % 8 = 0) : doneW k i = keyW k (i / 8) ∧ partN k i = 0 := by
  unfold doneW partN
  rw [if_pos h, h]
  simp [leB]
theorem sum_lt (k : List UInt8) (i : Nat) (c : UInt8) : partN k i + c.toNat * 256 ^ (i % 8) < 18446744073709551616 := by
  have h := partN_lt k i
  have hc := c.toNat_lt
  have h8 : i % 8 < 8 := by omega
  generalize i % 8 = r at *
  generalize partN k i = p at *
  generalize c.toNat = q at *
  match r, h8 with
  | 0, _ | 1, _ | 2, _ | 3, _ | 4, _ | 5, _ | 6, _ | 7, _ => simp at h ⊢; omega
end Go.Proofs.YtpbkjffiohfkcaaDoor
namespace Go.Proofs.YtpbkjffiohfkcaaDoor
open Go.RowKit
set_option linter.unusedVariables false
/-- Keys rise. -/
def RisesE (l : List En) : Prop := l.Pairwise (fun a b => kLt a.k b.k = true)
end Go.Proofs.YtpbkjffiohfkcaaDoor
namespace Go.Proofs.YtpbkjffiohfkcaaDoor
open Go.RowKit
set_option linter.unusedVariables false
theorem mixI_range (f : Int) (s : Nat) (x u : Int) : 0 ≤ mixI f s x u ∧ mixI f s x u < 18446744073709551616 := by
  have h : ∀ z : Int, 0 ≤ IntKind.u64.wrap z ∧ IntKind.u64.wrap z < 18446744073709551616 := fun z => by rw [IntKind.wrap_u64]; omega
  exact h _
theorem of0_range (k : ByteArray) (c n : Int) : 0 ≤ of0 k c n ∧ of0 k c n < 18446744073709551616 := by
  unfold of0; rw [wordsI_snoc, lane0_snoc]; exact mixI_range _ _ _ _
theorem of1_range (k : ByteArray) (c n : Int) : 0 ≤ of1 k c n ∧ of1 k c n < 18446744073709551616 := by
  unfold of1; rw [wordsI_snoc, lane1_snoc]; exact mixI_range _ _ _ _
/-- What an entry comes to. -/
def tof (e : En) : Tl := ⟨1, UInt64.ofNat (of0 e.k e.c e.n).toNat, UInt64.ofNat (of1 e.k e.c e.n).toNat⟩
theorem tof_n (e : En) : (tof e).n = 1 := rfl
theorem tof_a (e : En) : (tof e).a = of0 e.k e.c e.n := by
  have := of0_range e.k e.c e.n
  show ((UInt64.ofNat (of0 e.k e.c e.n).toNat).toNat : Int) = _
  rw [UInt64.toNat_ofNat']
  omega
theorem tof_b (e : En) : (tof e).b = of1 e.k e.c e.n := by
  have := of1_range e.k e.c e.n
  show ((UInt64.ofNat (of1 e.k e.c e.n).toNat).toNat : Int) = _
  rw [UInt64.toNat_ofNat']
  omega
theorem mon_tl : Mon tJoin tZero :=
  ⟨tJoin_assoc, fun a => by simp [tJoin, tZero], fun a => by simp [tJoin, tZero]⟩
/-- The row of an entry. -/
def rwE (e : En) : Rw En Tl := ⟨e.k, e, tof e⟩
/-- An entry put among sorted ones. -/
def insE (e : En) : List En → List En
  | [] => [e]
  | y :: l => if kLt e.k y.k then e :: y :: l else if kLt y.k e.k then y :: insE e l else e :: l
/-- The entry under a key. -/
def lookE (k : ByteArray) (l : List En) : Option En := l.find? (fun y => !kLt k y.k && !kLt y.k k)
/-- How many keys are below one. -/
def belE (k : ByteArray) (l : List En) : Nat := (l.filter (fun y => kLt y.k k)).length
/-- What entries come to. -/
def talL (l : List En) : Tl := l.foldl (fun a e => tJoin a (tof e)) tZero
theorem rises_map {l : List En} (h : RisesE l) : Rises (l.map rwE) := by
  unfold Rises RisesE at *
  rw [List.pairwise_map]
  exact h
theorem ins_map (e : En) : ∀ l : List En, ins e.k e (tof e) (l.map rwE) = (insE e l).map rwE
  | [] => rfl
  | y :: l => by
    simp only [List.map_cons, ins, insE, ins_map e l]
    show (if kLt e.k y.k then _ else if kLt y.k e.k then _ else _) = _
    split
    · rfl
    · split <;> rfl
theorem rises_of_map {l : List En} (h : Rises (l.map rwE)) : RisesE l := by
  unfold Rises RisesE at *
  rw [List.pairwise_map] at h
  exact h
theorem look_map (k : ByteArray) (l : List En) : look k (l.map rwE) = (lookE k l).map rwE := by
  unfold look lookE
  rw [List.find?_map]
  rfl
theorem rank_map (k : ByteArray) (l : List En) : rankL k (l.map rwE) = belE k l := by
  unfold rankL belE
  rw [List.filter_map, List.length_map]
  rfl
theorem foldL_map (l : List En) : foldL tJoin tZero (l.map rwE) = talL l := by
  unfold foldL talL
  rw [List.foldl_map]
  rfl
theorem seg_map (l : List En) (i j : Nat) : seg (l.map rwE) i j = ((l.take j).drop i).map rwE := by
  unfold seg
  rw [← List.map_take, ← List.map_drop]
theorem talL_append (a b : List En) : talL (a ++ b) = tJoin (talL a) (talL b) := by
  rw [← foldL_map, ← foldL_map, ← foldL_map, List.map_append, foldL_append mon_tl]
theorem talL_one (e : En) : talL [e] = tof e := by simp [talL, mon_tl.left]
/-- The tree T holds the entries L. -/
structure Hol (T : Tr En Tl) (L : List En) : Prop where
  bal : T.bal
  rows : T.rows = L.map rwE
  rises : RisesE L
theorem wt_cnt : ∀ T : Tr En Tl, T.wt tSz = T.cnt
  | .nil => rfl
  | .node l k v s r => by simp only [Tr.wt, Tr.cnt, wt_cnt l, wt_cnt r, tSz]
theorem Hol.nil : Hol .nil [] := ⟨trivial, rfl, List.Pairwise.nil⟩
theorem Hol.cnt {T : Tr En Tl} {L : List En} (h : Hol T L) : T.cnt = L.length := by rw [← Tr.rows_length, h.rows, List.length_map]
theorem Hol.gd {T : Tr En Tl} {L : List En} (h : Hol T L) : Gd tSz T L.length :=
  ⟨h.bal, by rw [h.rows]; exact rises_map h.rises, by rw [wt_cnt, h.cnt]; exact Nat.le_refl _⟩
theorem Hol.put {T : Tr En Tl} {L : List En} (h : Hol T L) (e : En) : Hol (Tr.put e.k e (tof e) T) (insE e L) := by
  have hr : (Tr.put e.k e (tof e) T).rows = (insE e L).map rwE := by rw [rows_put _ _ _ _ h.gd.rises, h.rows, ins_map]
  exact ⟨(Tr.bal_put _ _ _ T h.bal).1, hr, rises_of_map (by rw [← hr]; exact (h.gd.put e.k e (tof e)).rises)⟩
theorem Hol.found {T : Tr En Tl} {L : List En} (h : Hol T L) (k : ByteArray) : (Tr.found k T).val eNone = (lookE k L).getD eNone ∧ (!(Tr.found k T).isNil) = (lookE k L).isSome := by
  have h1 := look_found k T h.gd.rises
  rw [h.rows, look_map] at h1
  cases hF : Tr.found k T with
  | nil =>
    rw [hF] at h1
    cases hL : lookE k L with
    | none => exact ⟨rfl, rfl⟩
    | some x => rw [hL] at h1; cases h1
  | node l k' v s r =>
    rw [hF] at h1
    cases hL : lookE k L with
    | none => rw [hL] at h1; cases h1
    | some x =>
      rw [hL] at h1
      injection h1 with h1
      have : x = v := congrArg Rw.v h1
      subst this
      exact ⟨rfl, rfl⟩
theorem Hol.lower {T : Tr En Tl} {L : List En} (h : Hol T L) (k : ByteArray) : Tr.lower k T = belE k L := by
  rw [lower_rank k T h.gd.rises, h.rows, rank_map]
theorem Hol.fold {T : Tr En Tl} {L : List En} (h : Hol T L) (i j : Nat) (hj : j ≤ L.length) : Tr.fol tJoin tZero T (i : Int) (j : Int) = talL ((L.take j).drop i) := by
  rw [fol_nat mon_tl T i j (by rw [h.cnt]; exact hj), h.rows, seg_map, foldL_map]
theorem belE_le (k : ByteArray) (L : List En) : belE k L ≤ L.length := List.length_filter_le _ _
/-- The keys below one are the first. -/
theorem filter_low {k : ByteArray} : ∀ {L : List En}, RisesE L → L.filter (fun y => kLt y.k k) = L.take (belE k L)
  | [], _ => rfl
  | y :: L, h => by
    unfold RisesE at h
    rw [List.pairwise_cons] at h
    cases hq : kLt y.k k
    · have hn : (y :: L).filter (fun y => kLt y.k k) = [] := by
        rw [List.filter_eq_nil_iff]
        intro x hx
        rcases List.mem_cons.1 hx with rfl | hx
        · simp [hq]
        · cases hq2 : kLt x.k k
          · simp
          · have := kLt_trans (h.1 x hx) hq2
            rw [hq] at this; cases this
      unfold belE
      rw [hn]
      rfl
    · have ih := filter_low (k := k) (L := L) h.2
      have e : belE k (y :: L) = belE k L + 1 := by unfold belE; rw [List.filter_cons_of_pos (by simpa using hq)]; rfl
      rw [e, List.filter_cons_of_pos (by simpa using hq), List.take_succ_cons, ih]
theorem filter_high {k : ByteArray} : ∀ {L : List En}, RisesE L → L.filter (fun y => !kLt y.k k) = L.drop (belE k L)
  | [], _ => rfl
  | y :: L, h => by
    unfold RisesE at h
    rw [List.pairwise_cons] at h
    cases hq : kLt y.k k
    · have hn : ∀ x ∈ y :: L, kLt x.k k = false := fun x hx => by
        rcases List.mem_cons.1 hx with rfl | hx
        · exact hq
        · cases hq2 : kLt x.k k
          · rfl
          · have := kLt_trans (h.1 x hx) hq2
            rw [hq] at this; cases this
      have h1 : belE k (y :: L) = 0 := by
        unfold belE
        rw [List.filter_eq_nil_iff.2 (fun x hx => by simp [hn x hx])]
        rfl
      rw [h1, List.drop_zero, List.filter_eq_self]
      intro x hx
      simp [hn x hx]
    · have ih := filter_high (k := k) (L := L) h.2
      have e : belE k (y :: L) = belE k L + 1 := by unfold belE; rw [List.filter_cons_of_pos (by simpa using hq)]; rfl
      rw [e, List.filter_cons_of_neg (by simp [hq]), List.drop_succ_cons, ih]
/-- Whether a key is in a range that may be. -/
def inR (lo hi : ByteArray) (op : Bool) (e : En) : Bool := !kLt e.k lo && (op || kLt e.k hi)
/-- Where the rows of a range end. -/
def endE (hi : ByteArray) (op : Bool) (L : List En) : Nat := if op then L.length else belE hi L
theorem endE_le (hi : ByteArray) (op : Bool) (L : List En) : endE hi op L ≤ L.length := by
  unfold endE; split
  · exact Nat.le_refl _
  · exact belE_le _ _
theorem rank_take {lo hi : ByteArray} {L : List En} (hs : RisesE L) (h : kLt hi lo = false) : belE lo (L.take (belE hi L)) = belE lo L := by
  rw [← filter_low hs]
  unfold belE
  rw [List.filter_filter]
  congr 1
  apply List.filter_congr
  intro x _
  cases h1 : kLt x.k lo
  · simp
  · simp [kLt_trans_le h1 h]
/-- The rows of a range. -/
theorem seg_range {lo hi : ByteArray} {op : Bool} {L : List En} (hs : RisesE L) (h : op = true ∨ kLt hi lo = false) : (L.take (endE hi op L)).drop (belE lo L) = L.filter (inR lo hi op) := by
  cases op with
  | true =>
    have : inR lo hi true = fun y => !kLt y.k lo := by funext y; simp [inR]
    rw [this, filter_high hs]
    simp [endE]
  | false =>
    have h' : kLt hi lo = false := by rcases h with h | h; cases h; exact h
    have hs2 : RisesE (L.take (belE hi L)) := List.Pairwise.sublist (List.take_sublist _ _) hs
    show (L.take (belE hi L)).drop (belE lo L) = _
    rw [← rank_take hs h', ← filter_high hs2, ← filter_low hs, List.filter_filter]
    apply List.filter_congr
    intro x _
    simp [inR]
end Go.Proofs.YtpbkjffiohfkcaaDoor

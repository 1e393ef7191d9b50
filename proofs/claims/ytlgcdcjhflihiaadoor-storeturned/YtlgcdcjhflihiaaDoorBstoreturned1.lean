/-
  Bytes that a call owns: what they are as text, and small laws on rows of bytes that the walks of this seat share.
  Memory that a call has made: which blocks a step may turn (Keeps), a writer in its block (IsW), and what an append to it leaves.
  Plain mathematics: the order of keys, trees of rows, what Put makes of them.
  Memory of trees: blocks of one type that stay, a counter of joins, summaries.
  Small facts on blocks of two cells (sums), on frames, and entries as plain data.
  The table of lanes in memory; one word mixed into both lanes.
  Arguments of these laws, from their reading to plain numbers, texts, sums and entries; the table of lanes, from the row's list.
  How often the join is called.
  Plain mathematics: the way down to a key, and the way back up with a row.
  What == says of two sums.
  Tallies: their three cells, what == says of two, and of sums within them.
  Memory of a store's tree: a meter that counts, tallies of three cells, entries of five.
  Trees in memory (E): nodes and what they hold, rows and levels.
  down (E): the way to a key.
  Plain mathematics: a tree's n-th row, what a node holds, folds of rows by their numbers.
  Len, Get, Rank, At, New and Clone (E).
-/
import Derived.Test.YtlgcdcjhflihiaaDoorProg
import Derived.WalkKit
import Derived.WalkSpells
import Derived.WalkLawsBesides
import Derived.OwnWalk
import Derived.Lib.UnsafeStr
import Derived.Laws.IdiomStrings
import Derived.Deep.AppendLies
import Derived.KernelRfl
import Derived.Below
import Derived.Laws.Rows
import Derived.Test.YtlgcdcjhflihiaaDoorRows
import Derived.ProofKit
import Derived.OpenShut
import Derived.ShutString
import Derived.SizedLaws
import Derived.HandedShaped
import Derived.Lib.SmallJoins
import Derived.Deep.Slices
import Derived.Deep.Strs
import Derived.Deep.CondSized
import Derived.ChangeOld
import Derived.LaidLaws
import Derived.FnData
import Derived.Laws.Tables
import Derived.Laws.Cover2
import Derived.Deep.LoopGhost
import Derived.WalkMore
namespace Go.Proofs.YtlgcdcjhflihiaaDoor
open Go.RowKit
theorem info8 : (Tryd.prog.info? 5).map (fun i => (i.zero, i.size, i.bytes)) = some (some (.int .u8 0), 1, 1) := by kernel_rfl

/-- 'string(b)' of a row that the call owns. -/
theorem conv_own (w : World) (B : Nat) (v : Value) (l : List UInt8) (hown : w.ownsRow B 5 1 v l.length (Lib.byteCells l)) :
    (convert 97 9 v).run Tryd.prog w = .ok (.string ⟨l.toArray⟩) w := by
  rcases hown.2 with ⟨rfl, h0⟩ | ⟨g, cap, cur, rfl, -, -, -, -, -, -⟩
  · have hl : l = [] := List.length_eq_zero_iff.1 h0
    subst hl
    rw [run_convert_bytes_string w 97 9 5 none 0 0 Tryd.underlying97 Tryd.underlying5 Tryd.underlying9]
    rfl
  · exact run_convert_bytes_back (P := Tryd.prog) w 97 9 5 ⟨g, 0, none⟩ cap l Tryd.underlying97 Tryd.underlying5 Tryd.underlying9 (fun j hj => hown.cells (g := g) rfl j _ (by simp [Lib.byteCells, hj]))

/-- A fact put aside: the walk does not look behind the name. -/
theorem aside {p : Prop} (h : p) : Hid p := h

theorem ret_str {l m : List UInt8} (h : l = m) : Ending.returned (.string ⟨l.toArray⟩) = .returned (.string ⟨m.toArray⟩) := by rw [h]

theorem idx_str' (s : ByteArray) (k : Nat) (hk : k < s.size) (i : Int) (h : i = (k : Int)) (w : World) :
    (Instr.index 9 (.string s) (.int .i64 i)).run Tryd.prog w = .ok (.int .u8 (s[k].toNat : Int)) w := by
  subst h
  rw [run_index_string w 9 _ .i64 _ Tryd.underlying9, dif_pos ⟨by omega, by omega⟩]
  simp only [Int.toNat_natCast]

theorem take_snoc (s : ByteArray) (k : Nat) (h : k < s.size) : s.data.toList.take (k + 1) = s.data.toList.take k ++ [s[k]] := by
  rw [List.take_succ_eq_append_getElem (by simpa using h)]; rfl

theorem drop_one (s : ByteArray) (k : Nat) (h : k < s.size) : s.data.toList.drop k = s[k] :: s.data.toList.drop (k + 1) := by
  rw [List.drop_eq_getElem_cons (show k < s.data.toList.length from by simpa using h)]; rfl

theorem take_all (s : ByteArray) : s.data.toList.take s.size = s.data.toList := List.take_of_length_le (by show s.data.toList.length ≤ s.data.size; simp)

end Go.Proofs.YtlgcdcjhflihiaaDoor
namespace Go.Proofs.YtlgcdcjhflihiaaDoor
open Go.RowKit
/-- Of the blocks that were there only those in S may have turned; streams as they were; no block has gone. -/
structure Keeps (S : Nat → Prop) (w w' : World) : Prop where
  os : w'.os = w.os
  tape : w'.tape = w.tape
  output : w'.output = w.output
  size : w.heap.size ≤ w'.heap.size
  block : ∀ k, k < w.heap.size → ¬ S k → w'.heap[k]? = w.heap[k]?

theorem Keeps.refl (S : Nat → Prop) (w : World) : Keeps S w w := ⟨rfl, rfl, rfl, Nat.le_refl _, fun _ _ _ => rfl⟩

theorem Keeps.trans {S : Nat → Prop} {a b c : World} (h : Keeps S a b) (k : Keeps S b c) : Keeps S a c :=
  ⟨k.os.trans h.os, k.tape.trans h.tape, k.output.trans h.output, Nat.le_trans h.size k.size, fun i hi hs => (k.block i (Nat.lt_of_lt_of_le hi h.size) hs).trans (h.block i hi hs)⟩

theorem Keeps.mono {S S' : Nat → Prop} {w w' : World} (h : Keeps S w w') (hS : ∀ k, k < w.heap.size → S k → S' k) : Keeps S' w w' :=
  ⟨h.os, h.tape, h.output, h.size, fun k hk hs => h.block k hk (fun s => hs (hS k hk s))⟩

theorem Keeps.drew {S : Nat → Prop} {a w : World} (h : Keeps S a w) : Keeps S a w.drew := ⟨h.os, h.tape, h.output, h.size, h.block⟩

theorem Keeps.drewN {S : Nat → Prop} {a w : World} (h : Keeps S a w) (n : Nat) : Keeps S a (w.drewN n) := ⟨h.os, h.tape, h.output, h.size, h.block⟩

theorem Keeps.alloc {S : Nat → Prop} {a w : World} (h : Keeps S a w) (o : Obj) : Keeps S a (w.alloc o) :=
  h.trans ⟨rfl, rfl, rfl, by simp, fun k hk _ => Below.heap_alloc _ _ _ hk⟩

theorem Keeps.setCell {S : Nat → Prop} {a w : World} (h : Keeps S a w) {p : Addr} (hp : p.block < a.heap.size → S p.block) (u : Value) : Keeps S a (w.setCell p u) :=
  ⟨h.os, h.tape, h.output, Nat.le_trans h.size (by simp [World.setCell]), fun k hk hs => by
    have hne : k ≠ p.block := fun e => by subst e; exact hs (hp hk)
    rw [Below.heap_setCell _ _ _ _ hne]
    exact h.block k hk hs⟩

theorem Keeps.grown {S : Nat → Prop} {a w w' : World} {row : Option Nat} (h : Keeps S a w) (hg : w.grownBy w' row) (hr : ∀ k, row = some k → k < a.heap.size → S k) : Keeps S a w' :=
  ⟨hg.os.trans h.os, hg.tape.trans h.tape, hg.output.trans h.output, Nat.le_trans h.size hg.size, fun k hk hs => (hg.block k (Nat.lt_of_lt_of_le hk h.size) (fun e => hs (hr k e.symm hk))).trans (h.block k hk hs)⟩

theorem Keeps.below {S : Nat → Prop} {w w' : World} (h : Keeps S w w') {B : Nat} (hB : B ≤ w.heap.size) (hS : ∀ k, k < B → ¬ S k) : Below B w w' :=
  ⟨h.os, h.tape, h.output, h.size, fun k hk => h.block k (Nat.lt_of_lt_of_le hk hB) (hS k hk)⟩

theorem Keeps.of_below {w w' : World} (h : Below w.heap.size w w') (S : Nat → Prop) : Keeps S w w' :=
  ⟨h.os, h.tape, h.output, h.size, fun k hk _ => h.block k hk⟩

theorem Keeps.cell {S : Nat → Prop} {w w' : World} (h : Keeps S w w') {p : Addr} (hp : p.block < w.heap.size) (hn : ¬ S p.block) : w'.cell? p = w.cell? p := World.cell?_of_block (w := w) (h.block p.block hp hn)

theorem ownsRow_keep {S : Nat → Prop} {w w' : World} {base : Nat} {e : TypeId} {size : Nat} {v : Value} {n : Nat} {xs : List Value} (h : w.ownsRow base e size v n xs) (k : Keeps S w w') (hv : ∀ j, v.ownBlock = some j → ¬ S j) : w'.ownsRow base e size v n xs := by
  refine ⟨h.1, ?_⟩
  rcases h.2 with hn | ⟨g, cap, cur, rfl, hb, hg, r⟩
  · exact .inl hn
  · refine .inr ⟨g, cap, cur, rfl, hb, ?_, r⟩
    rw [k.block g (Array.getElem?_eq_some_iff.1 hg).1 (hv g rfl)]
    exact hg

/-- The row that a value owns is the old one, or was made since. -/
def Fresh (w : World) (g g' : Option Nat) : Prop := g' = g ∨ ∃ k, g' = some k ∧ w.heap.size ≤ k

theorem Fresh.trans {w w1 : World} {g g1 g2 : Option Nat} (h : Fresh w g g1) (k : Fresh w1 g1 g2) (hw : w.heap.size ≤ w1.heap.size) : Fresh w g g2 := by
  rcases k with rfl | ⟨j, rfl, hj⟩
  · exact h
  · exact .inr ⟨j, rfl, Nat.le_trans hw hj⟩

/-- Two steps that each turn block b and the row then owned. -/
theorem Keeps.step {b : Nat} {w wr w2 : World} {g g1 : Option Nat} (h1 : Keeps (fun k => k = b ∨ g = some k) w wr) (fr : Fresh w g g1) (h2 : Keeps (fun k => k = b ∨ g1 = some k) wr w2) : Keeps (fun k => k = b ∨ g = some k) w w2 :=
  ⟨h2.os.trans h1.os, h2.tape.trans h1.tape, h2.output.trans h1.output, Nat.le_trans h1.size h2.size, fun k hk hs =>
    (h2.block k (Nat.lt_of_lt_of_le hk h1.size) (fun e => by
      rcases e with e | e
      · exact hs (.inl e)
      · rcases fr with rfl | ⟨j, rfl, hj⟩
        · exact hs (.inr e)
        · cases e; omega)).trans (h1.block k hk hs)⟩

/-- A writer (a struct of one slice of bytes) of type T in block b, one of the blocks from B on; its row is in block g; it holds the bytes l. -/
def IsW (T B b : Nat) (g : Option Nat) (l : List UInt8) (w : World) : Prop :=
  B ≤ b ∧ g ≠ some b ∧ ∃ v, w.heap[b]? = some (.cells #[v] T (0, 0)) ∧ v.ownBlock = g ∧ w.ownsRow B 5 1 v l.length (Lib.byteCells l)

theorem IsW.lt {T B b : Nat} {g : Option Nat} {l : List UInt8} {w : World} (h : IsW T B b g l w) : b < w.heap.size := by
  obtain ⟨_, _, v, hv, _⟩ := h
  exact (Array.getElem?_eq_some_iff.1 hv).1

theorem IsW.row {T B b : Nat} {g : Option Nat} {l : List UInt8} {w : World} (h : IsW T B b g l w) : ∀ k, g = some k → B ≤ k ∧ k < w.heap.size := by
  obtain ⟨_, _, v, _, rfl, ho⟩ := h
  exact ho.lt

theorem IsW.keep {S : Nat → Prop} {T B b : Nat} {g : Option Nat} {l : List UInt8} {w w' : World} (h : IsW T B b g l w) (k : Keeps S w w') (hb : ¬ S b) (hg : ∀ j, g = some j → ¬ S j) : IsW T B b g l w' := by
  have hlt := h.lt
  obtain ⟨h1, h2, v, hv, rfl, ho⟩ := h
  exact ⟨h1, h2, v, (k.block b hlt hb).trans hv, rfl, ownsRow_keep ho k hg⟩

theorem IsW.of_len {T B b : Nat} {g : Option Nat} {l m : List UInt8} {w : World} (h : IsW T B b g l w) (e : l = m) : IsW T B b g m w := e ▸ h

/-- The block stands while another row grows. -/
theorem block_grown {wr w1 : World} {o : Obj} {T b : Nat} {v : Value} (hh : wr.heap[b]? = some (.cells #[v] T (0, 0))) (hne : v.ownBlock ≠ some b) (hg : (wr.alloc o).grownBy w1 v.ownBlock) : w1.heap[b]? = some (.cells #[v] T (0, 0)) := by
  have hlt := (Array.getElem?_eq_some_iff.1 hh).1
  rw [hg.block b (by simp; omega) (Ne.symm hne), Below.heap_alloc _ _ _ hlt]
  exact hh

theorem cell_one {w : World} {T b : Nat} {v : Value} (hh : w.heap[b]? = some (.cells #[v] T (0, 0))) : w.cell? ⟨b, 0, none⟩ = some v := by
  rw [cell_of_row w b 0 _ _ _ hh]; rfl

theorem frozen_one {w : World} {T b : Nat} {v : Value} (hh : w.heap[b]? = some (.cells #[v] T (0, 0))) : w.frozen? ⟨b, 0, none⟩ = false := frozen_of_row w b 0 _ _ hh

/-- An append to a writer, its slice stored back. -/
theorem app_done {T B b g1 cap : Nat} {wr w1 : World} {o : Obj} {v : Value} {l news : List UInt8} {n : Nat} (hB : B ≤ b) (hh : wr.heap[b]? = some (.cells #[v] T (0, 0))) (hne : v.ownBlock ≠ some b)
    (hn : l.length + news.length = n)
    (hg : (wr.alloc o).grownBy w1 v.ownBlock) (hown1 : w1.ownsRow B 5 1 (.slice (some ⟨g1, 0, none⟩) n cap) n (Lib.byteCells l ++ Lib.byteCells news)) (hat : v.ownBlock = some g1 ∨ g1 = wr.heap.size + 1) :
    IsW T B b (some g1) (l ++ news) (w1.setCell ⟨b, 0, none⟩ (.slice (some ⟨g1, 0, none⟩) n cap)) ∧ Fresh wr v.ownBlock (some g1) ∧
    Keeps (fun k => k = b ∨ v.ownBlock = some k) wr (w1.setCell ⟨b, 0, none⟩ (.slice (some ⟨g1, 0, none⟩) n cap)) := by
  have hlt := (Array.getElem?_eq_some_iff.1 hh).1
  have hb1 := block_grown hh hne hg
  have hgb : g1 ≠ b := by
    rcases hat with h | h
    · intro e; exact hne (by rw [h, e])
    · omega
  refine ⟨⟨hB, fun e => hgb (Option.some.inj e), .slice (some ⟨g1, 0, none⟩) n cap, ?_, rfl, ?_⟩, ?_, ?_⟩
  · rw [heap_setCell_same w1 b 0 _ T _ hb1]; rfl
  · subst hn
    refine ⟨by simp [Lib.byteCells], ?_⟩
    rcases hown1.2 with ⟨h, _⟩ | ⟨g, c, cur, e, hbase, hheap, r⟩
    · cases h
    · cases e
      refine .inr ⟨g1, cap, cur, by simp, hbase, ?_, ?_⟩
      · rw [Below.heap_setCell _ _ _ _ hgb]; exact hheap
      · rw [List.length_append, Lib.byteCells_append]; exact r
  · rcases hat with h | h
    · exact .inl h.symm
    · exact .inr ⟨g1, rfl, by omega⟩
  · refine Keeps.setCell (((Keeps.refl _ wr).alloc o).grown hg (fun k hk _ => .inr hk)) (fun _ => .inl rfl) _

end Go.Proofs.YtlgcdcjhflihiaaDoor
namespace Go.Proofs.YtlgcdcjhflihiaaDoor
open Go.RowKit
theorem L_irrefl : ∀ x : List UInt8, Op.bytesLess x x = false
  | [] => rfl
  | a :: x => by simp [Op.bytesLess, L_irrefl x]

theorem L_total : ∀ x y : List UInt8, Op.bytesLess x y = false → Op.bytesLess y x = false → x = y
  | [], [], _, _ => rfl
  | [], _ :: _, h, _ => by simp [Op.bytesLess] at h
  | _ :: _, [], _, h => by simp [Op.bytesLess] at h
  | a :: x, b :: y, h1, h2 => by
    simp only [Op.bytesLess, Bool.or_eq_false_iff, decide_eq_false_iff_not, Bool.and_eq_false_iff] at h1 h2
    have e : a = b := by
      have g1 := h1.1; have g2 := h2.1
      simp only [UInt8.lt_iff_toNat_lt] at g1 g2
      exact UInt8.toNat_inj.1 (by omega)
    subst e
    rw [L_total x y (by simpa using h1.2) (by simpa using h2.2)]

theorem L_trans : ∀ x y z : List UInt8, Op.bytesLess x y = true → Op.bytesLess y z = true → Op.bytesLess x z = true
  | _, _, [], _, h => by cases ‹List UInt8› <;> simp [Op.bytesLess] at h
  | _, [], _ :: _, h, _ => by cases ‹List UInt8› <;> simp [Op.bytesLess] at h
  | [], _ :: _, _ :: _, _, _ => by simp [Op.bytesLess]
  | a :: x, b :: y, c :: z, h1, h2 => by
    simp only [Op.bytesLess, Bool.or_eq_true, decide_eq_true_eq, Bool.and_eq_true, beq_iff_eq, UInt8.lt_iff_toNat_lt] at h1 h2 ⊢
    rcases h1 with h1 | ⟨rfl, h1⟩
    · rcases h2 with h2 | ⟨rfl, h2⟩
      · exact .inl (by omega)
      · exact .inl h1
    · rcases h2 with h2 | ⟨rfl, h2⟩
      · exact .inl h2
      · exact .inr ⟨rfl, L_trans x y z h1 h2⟩

theorem toList_inj {a b : ByteArray} (h : a.toList = b.toList) : a = b := by
  rw [ByteArray.toList_eq, ByteArray.toList_eq] at h
  cases a; cases b
  simp only [ByteArray.mk.injEq]
  exact Array.toList_inj.1 h

/-- A key is lower than another. -/
def kLt (a b : ByteArray) : Bool := Op.bytesLess a.toList b.toList

theorem kLt_irrefl (a : ByteArray) : kLt a a = false := L_irrefl _

theorem kLt_trans {a b c : ByteArray} (h : kLt a b = true) (k : kLt b c = true) : kLt a c = true := L_trans _ _ _ h k

theorem kLt_asymm {a b : ByteArray} (h : kLt a b = true) : kLt b a = false := by
  cases k : kLt b a
  · rfl
  · have := kLt_trans h k; rw [kLt_irrefl] at this; cases this

theorem kLt_total {a b : ByteArray} (h : kLt a b = false) (k : kLt b a = false) : a = b := toList_inj (L_total _ _ h k)

theorem kLt_ne {a b : ByteArray} (h : kLt a b = true) : a ≠ b := fun e => by subst e; rw [kLt_irrefl] at h; cases h

theorem kLt_le_trans {a b c : ByteArray} (h : kLt b a = false) (k : kLt b c = true) : kLt a c = true := by
  cases h2 : kLt a b
  · rw [kLt_total h2 h]; exact k
  · exact kLt_trans h2 k

theorem kLt_trans_le {a b c : ByteArray} (h : kLt a b = true) (k : kLt c b = false) : kLt a c = true := by
  cases h2 : kLt b c
  · rw [kLt_total k h2]; exact h
  · exact kLt_trans h h2

/-- A row. -/
structure Rw (β α : Type) where
  k : ByteArray
  v : β
  s : α

/-- A tree of rows. -/
inductive Tr (β α : Type) where
  | nil : Tr β α
  | node (l : Tr β α) (k : ByteArray) (v : β) (s : α) (r : Tr β α) : Tr β α

namespace Tr
variable {β α : Type}
def isNil : Tr β α → Bool
  | nil => true
  | node .. => false

def cnt : Tr β α → Nat
  | nil => 0
  | node l _ _ _ r => l.cnt + 1 + r.cnt

def ht : Tr β α → Nat
  | nil => 0
  | node l _ _ _ r => max l.ht r.ht + 1

/-- How much a tree holds: its rows, and what their summaries take. -/
def wt (z : α → Nat) : Tr β α → Nat
  | nil => 0
  | node l _ _ s r => l.wt z + 1 + z s + r.wt z

/-- The sum that a node keeps. -/
def sum (J : α → α → α) (e : α) : Tr β α → α
  | nil => e
  | node l _ _ s r =>
    if r.isNil then (if l.isNil then s else J (l.sum J e) s) else J (if l.isNil then s else J (l.sum J e) s) (r.sum J e)

def rows : Tr β α → List (Rw β α)
  | nil => []
  | node l k v s r => l.rows ++ ⟨k, v, s⟩ :: r.rows

theorem rows_length : ∀ t : Tr β α, t.rows.length = t.cnt
  | nil => rfl
  | node l k v s r => by simp [rows, cnt, rows_length l, rows_length r]; omega

theorem ht_le_cnt : ∀ t : Tr β α, t.ht ≤ t.cnt
  | nil => Nat.le_refl _
  | node l k v s r => by have := ht_le_cnt l; have := ht_le_cnt r; simp only [ht, cnt]; omega

theorem cnt_le_wt (z : α → Nat) : ∀ t : Tr β α, t.cnt ≤ t.wt z
  | nil => Nat.le_refl _
  | node l k v s r => by have := cnt_le_wt z l; have := cnt_le_wt z r; simp only [wt, cnt]; omega

theorem sum_le {z : α → Nat} {J : α → α → α} (hJ : ∀ a b, z (J a b) ≤ z a + z b) (e : α) : ∀ t : Tr β α, t.isNil = false → z (t.sum J e) ≤ t.wt z
  | nil, h => by cases h
  | node l k v s r, _ => by
    have hl : l.isNil = false → z (l.sum J e) ≤ l.wt z := sum_le hJ e l
    have hr : r.isNil = false → z (r.sum J e) ≤ r.wt z := sum_le hJ e r
    cases h1 : l.isNil <;> cases h2 : r.isNil <;> simp only [sum, wt, h1, h2, if_true, if_false, Bool.false_eq_true]
    · have := hJ (J (l.sum J e) s) (r.sum J e); have := hJ (l.sum J e) s; have := hl h1; have := hr h2; omega
    · have := hJ (l.sum J e) s; have := hl h1; omega
    · have := hJ s (r.sum J e); have := hr h2; omega
    · omega

/-- A node turned to the right. -/
def turnR (k : ByteArray) (v : β) (s : α) (l r : Tr β α) : Tr β α :=
  match l with
  | nil => node nil k v s r
  | node ll lk lv ls lr =>
    if lr.ht ≤ ll.ht then node ll lk lv ls (node lr k v s r) else
      match lr with
      | nil => node (node ll lk lv ls nil) k v s r
      | node a ik iv is b => node (node ll lk lv ls a) ik iv is (node b k v s r)

def turnL (k : ByteArray) (v : β) (s : α) (l r : Tr β α) : Tr β α :=
  match r with
  | nil => node l k v s nil
  | node rl rk rv rs rr =>
    if rl.ht ≤ rr.ht then node (node l k v s rl) rk rv rs rr else
      match rl with
      | nil => node l k v s (node nil rk rv rs rr)
      | node a ik iv is b => node (node l k v s a) ik iv is (node b rk rv rs rr)

def level (k : ByteArray) (v : β) (s : α) (l r : Tr β α) : Tr β α :=
  if l.ht = r.ht + 2 then turnR k v s l r else if r.ht = l.ht + 2 then turnL k v s l r else node l k v s r

theorem level_cases {P : Tr β α → Prop} (k : ByteArray) (v : β) (s : α) (l r : Tr β α)
    (h0 : ¬ l.ht = r.ht + 2 → ¬ r.ht = l.ht + 2 → P (node l k v s r))
    (h1 : ∀ ll lk lv ls lr, l = node ll lk lv ls lr → l.ht = r.ht + 2 → lr.ht ≤ ll.ht → P (node ll lk lv ls (node lr k v s r)))
    (h2 : ∀ ll lk lv ls a ik iv is b, l = node ll lk lv ls (node a ik iv is b) → l.ht = r.ht + 2 → ll.ht < (node a ik iv is b).ht → P (node (node ll lk lv ls a) ik iv is (node b k v s r)))
    (h3 : ∀ rl rk rv rs rr, r = node rl rk rv rs rr → r.ht = l.ht + 2 → rl.ht ≤ rr.ht → P (node (node l k v s rl) rk rv rs rr))
    (h4 : ∀ a ik iv is b rk rv rs rr, r = node (node a ik iv is b) rk rv rs rr → r.ht = l.ht + 2 → rr.ht < (node a ik iv is b).ht → P (node (node l k v s a) ik iv is (node b rk rv rs rr))) : P (level k v s l r) := by
  unfold level
  split
  · rename_i h
    match l, h with
    | node ll lk lv ls lr, h =>
      simp only [turnR]
      split
      · rename_i g; exact h1 _ _ _ _ _ rfl h g
      · rename_i g
        match lr, h, g with
        | nil, h, g => simp [ht] at g
        | node a ik iv is b, h, g => exact h2 _ _ _ _ _ _ _ _ _ rfl h (by omega)
  · rename_i hn
    split
    · rename_i h
      match r, h with
      | node rl rk rv rs rr, h =>
        simp only [turnL]
        split
        · rename_i g; exact h3 _ _ _ _ _ rfl h g
        · rename_i g
          match rl, h, g with
          | nil, h, g => simp [ht] at g
          | node a ik iv is b, h, g => exact h4 _ _ _ _ _ _ _ _ _ rfl h (by omega)
    · rename_i h; exact h0 hn h

theorem rows_level (k : ByteArray) (v : β) (s : α) (l r : Tr β α) : (level k v s l r).rows = l.rows ++ ⟨k, v, s⟩ :: r.rows := by
  apply level_cases (P := fun t => t.rows = l.rows ++ ⟨k, v, s⟩ :: r.rows)
  · intros; rfl
  · rintro _ _ _ _ _ rfl _ _; simp [rows]
  · rintro _ _ _ _ _ _ _ _ _ rfl _ _; simp [rows]
  · rintro _ _ _ _ _ rfl _ _; simp [rows]
  · rintro _ _ _ _ _ _ _ _ _ rfl _ _; simp [rows]

theorem wt_level (z : α → Nat) (k : ByteArray) (v : β) (s : α) (l r : Tr β α) : (level k v s l r).wt z = l.wt z + 1 + z s + r.wt z := by
  apply level_cases (P := fun t => t.wt z = l.wt z + 1 + z s + r.wt z)
  · intros; rfl
  · rintro _ _ _ _ _ rfl _ _; simp only [wt]; omega
  · rintro _ _ _ _ _ _ _ _ _ rfl _ _; simp only [wt]; omega
  · rintro _ _ _ _ _ rfl _ _; simp only [wt]; omega
  · rintro _ _ _ _ _ _ _ _ _ rfl _ _; simp only [wt]; omega

/-- At each node the sides' heights differ by at most one. -/
def bal : Tr β α → Prop
  | nil => True
  | node l _ _ _ r => l.bal ∧ r.bal ∧ l.ht ≤ r.ht + 1 ∧ r.ht ≤ l.ht + 1

theorem bal_level {k : ByteArray} {v : β} {s : α} {l r : Tr β α} (hl : l.bal) (hr : r.bal) (h1 : l.ht ≤ r.ht + 2) (h2 : r.ht ≤ l.ht + 2) :
    (level k v s l r).bal ∧ (level k v s l r).ht ≤ max l.ht r.ht + 1 ∧ max l.ht r.ht ≤ (level k v s l r).ht ∧ (l.ht ≤ r.ht + 1 → r.ht ≤ l.ht + 1 → (level k v s l r).ht = max l.ht r.ht + 1) := by
  apply level_cases (P := fun t => t.bal ∧ t.ht ≤ max l.ht r.ht + 1 ∧ max l.ht r.ht ≤ t.ht ∧ (l.ht ≤ r.ht + 1 → r.ht ≤ l.ht + 1 → t.ht = max l.ht r.ht + 1))
  · intro a b; simp only [bal, ht]; exact ⟨⟨hl, hr, by omega, by omega⟩, by omega, by omega, fun _ _ => by first | rfl | trivial⟩
  · rintro ll lk lv ls lr rfl e g
    obtain ⟨a, b, c, d⟩ := hl
    simp only [bal, ht] at *
    exact ⟨⟨a, ⟨b, hr, by omega, by omega⟩, by omega, by omega⟩, by omega, by omega, by omega⟩
  · rintro ll lk lv ls a ik iv is b rfl e g
    obtain ⟨p, ⟨q1, q2, q3, q4⟩, c, d⟩ := hl
    simp only [bal, ht] at *
    exact ⟨⟨⟨p, q1, by omega, by omega⟩, ⟨q2, hr, by omega, by omega⟩, by omega, by omega⟩, by omega, by omega, by omega⟩
  · rintro ll lk lv ls lr rfl e g
    obtain ⟨a, b, c, d⟩ := hr
    simp only [bal, ht] at *
    exact ⟨⟨⟨hl, a, by omega, by omega⟩, b, by omega, by omega⟩, by omega, by omega, by omega⟩
  · rintro a ik iv is b rk rv rs rr rfl e g
    obtain ⟨⟨q1, q2, q3, q4⟩, p, c, d⟩ := hr
    simp only [bal, ht] at *
    exact ⟨⟨⟨hl, q1, by omega, by omega⟩, ⟨q2, p, by omega, by omega⟩, by omega, by omega⟩, by omega, by omega, by omega⟩

def put (k : ByteArray) (v : β) (s : α) : Tr β α → Tr β α
  | nil => node nil k v s nil
  | node l k' v' s' r =>
    if kLt k k' then level k' v' s' (put k v s l) r else if kLt k' k then level k' v' s' l (put k v s r) else node l k v s r

theorem bal_put (k : ByteArray) (v : β) (s : α) : ∀ t : Tr β α, t.bal → (put k v s t).bal ∧ t.ht ≤ (put k v s t).ht ∧ (put k v s t).ht ≤ t.ht + 1
  | nil, _ => by simp [put, bal, ht]
  | node l k' v' s' r, h => by
    obtain ⟨hl, hr, h1, h2⟩ := h
    simp only [put]
    split
    · obtain ⟨a, b, c⟩ := bal_put k v s l hl
      obtain ⟨p, q, r1, r2⟩ := bal_level (k := k') (v := v') (s := s') a hr (by omega) (by omega)
      refine ⟨p, ?_, ?_⟩
      · by_cases g : (put k v s l).ht ≤ r.ht + 1
        · rw [r2 g (by omega)]; simp only [ht]; omega
        · simp only [ht]; omega
      · by_cases g : (put k v s l).ht ≤ r.ht + 1
        · rw [r2 g (by omega)]; simp only [ht]; omega
        · simp only [ht]; omega
    · split
      · obtain ⟨a, b, c⟩ := bal_put k v s r hr
        obtain ⟨p, q, r1, r2⟩ := bal_level (k := k') (v := v') (s := s') hl a (by omega) (by omega)
        refine ⟨p, ?_, ?_⟩
        · by_cases g : (put k v s r).ht ≤ l.ht + 1
          · rw [r2 (by omega) g]; simp only [ht]; omega
          · simp only [ht]; omega
        · by_cases g : (put k v s r).ht ≤ l.ht + 1
          · rw [r2 (by omega) g]; simp only [ht]; omega
          · simp only [ht]; omega
      · exact ⟨⟨hl, hr, h1, h2⟩, Nat.le_refl _, Nat.le_succ _⟩

theorem bal_cnt : ∀ t : Tr β α, t.bal → 2 ^ (t.ht / 2) ≤ t.cnt + 1
  | nil, _ => by simp [ht, cnt]
  | node l k v s r, h => by
    obtain ⟨hl, hr, h1, h2⟩ := h
    have a := bal_cnt l hl
    have b := bal_cnt r hr
    simp only [ht, cnt]
    by_cases h0 : max l.ht r.ht = 0
    · rw [h0]; simp
    · have e : (max l.ht r.ht + 1) / 2 = (max l.ht r.ht - 1) / 2 + 1 := by omega
      rw [e, Nat.pow_succ]
      have c : 2 ^ ((max l.ht r.ht - 1) / 2) ≤ 2 ^ (l.ht / 2) := Nat.pow_le_pow_right (by omega) (by omega)
      have d : 2 ^ ((max l.ht r.ht - 1) / 2) ≤ 2 ^ (r.ht / 2) := Nat.pow_le_pow_right (by omega) (by omega)
      omega

theorem bal_ht {t : Tr β α} (h : t.bal) {n : Nat} (hn : t.cnt + 1 ≤ 2 ^ n) : t.ht ≤ 2 * n + 1 := by
  have := bal_cnt t h
  have h2 : t.ht / 2 ≤ n := by
    by_cases g : t.ht / 2 ≤ n
    · exact g
    · have : 2 ^ (n + 1) ≤ 2 ^ (t.ht / 2) := Nat.pow_le_pow_right (by omega) (by omega)
      rw [Nat.pow_succ] at this
      have := Nat.one_le_two_pow (n := n)
      omega
  omega

end Tr
end Go.Proofs.YtlgcdcjhflihiaaDoor
namespace Go.Proofs.YtlgcdcjhflihiaaDoor
open Go.RowKit
set_option linter.unusedVariables false
theorem bthen {w w1 w2 : World} (h : Below w.heap.size w w1) (h2 : Below w1.heap.size w1 w2) : Below w.heap.size w w2 := h.trans (h2.mono h.size)

theorem bnew (w : World) (o : Obj) : Below w.heap.size w (w.alloc o) := (Below.refl _ w).alloc (Nat.le_refl _) _

theorem blk_on {w w' : World} {i : Nat} {o : Obj} (h : w.heap[i]? = some o) (b : Below w.heap.size w w') : w'.heap[i]? = some o := (b.block i (Array.getElem?_eq_some_iff.1 h).1).trans h

theorem lt_of_blk {w : World} {i : Nat} {o : Obj} (h : w.heap[i]? = some o) : i < w.heap.size := (Array.getElem?_eq_some_iff.1 h).1

theorem blk_keep {S : Nat → Prop} {w w' : World} {i : Nat} {o : Obj} (h : w.heap[i]? = some o) (k : Keeps S w w') (hn : ¬ S i) : w'.heap[i]? = some o := (k.block i (lt_of_blk h) hn).trans h

/-- Blocks of the type T stay as they are. -/
def Stay (T : TypeId) (w w' : World) : Prop := ∀ (b : Nat) (cs : Array Value), w.heap[b]? = some (.cells cs T (0, 0)) → w'.heap[b]? = some (.cells cs T (0, 0))

theorem Stay.refl (T : TypeId) (w : World) : Stay T w w := fun _ _ h => h

theorem Stay.trans {T : TypeId} {a b c : World} (h : Stay T a b) (k : Stay T b c) : Stay T a c := fun _ _ e => k _ _ (h _ _ e)

theorem Stay.drew {T : TypeId} {a b : World} (h : Stay T a b) : Stay T a b.drew := fun _ _ e => h _ _ e

theorem Stay.alloc {T : TypeId} {a b : World} (h : Stay T a b) (o : Obj) : Stay T a (b.alloc o) := fun _ _ e => blk_on (h _ _ e) (bnew _ _)

theorem Stay.setCell {T : TypeId} {a b : World} (h : Stay T a b) {p : Addr} (u : Value) (hp : ∀ cs, b.heap[p.block]? ≠ some (.cells cs T (0, 0))) : Stay T a (b.setCell p u) := fun i _ e => by
  rw [heap_setCell_other]
  · exact h _ _ e
  · rintro rfl; exact hp _ (h _ _ e)

theorem Stay.keeps {T : TypeId} {S : Nat → Prop} {a b c : World} (h : Stay T a b) (k : Keeps S b c) (hS : ∀ i cs, b.heap[i]? = some (.cells cs T (0, 0)) → ¬ S i) : Stay T a c := fun i _ e => blk_keep (h _ _ e) k (hS _ _ (h _ _ e))

theorem Stay.grown {T : TypeId} {a b c : World} {row : Option Nat} (h : Stay T a b) (hg : b.grownBy c row) (hrow : ∀ r, row = some r → ∀ cs, b.heap[r]? ≠ some (.cells cs T (0, 0))) : Stay T a c := fun i _ e => by
  have e1 := h _ _ e
  rw [hg.block i (lt_of_blk e1) (fun e2 => hrow i e2.symm _ e1)]
  exact e1

/-- How often a join was called, where it counts: in the block c. -/
def Cnt (c : Option Nat) (n : Nat) (w : World) : Prop := ∀ b : Nat, c = some b → w.heap[b]? = some (.cells #[.int .i64 (IntKind.i64.wrap (n : Int))] 3 (0, 0))

/-- The counter's block. -/
def OnC (c : Option Nat) : Nat → Prop := fun k => c = some k

theorem Cnt.drew {c : Option Nat} {n : Nat} {w : World} (h : Cnt c n w) : Cnt c n w.drew := h

theorem Cnt.alloc {c : Option Nat} {n : Nat} {w : World} (h : Cnt c n w) (o : Obj) : Cnt c n (w.alloc o) := fun b e => blk_on (h b e) (bnew _ _)

theorem Cnt.keep {S : Nat → Prop} {c : Option Nat} {n : Nat} {w w' : World} (h : Cnt c n w) (k : Keeps S w w') (hS : ∀ b, c = some b → ¬ S b) : Cnt c n w' := fun b e => blk_keep (h b e) k (hS b e)

theorem Cnt.below {c : Option Nat} {n : Nat} {w w' : World} (h : Cnt c n w) (k : Below w.heap.size w w') : Cnt c n w' := fun b e => blk_on (h b e) k

theorem Cnt.apart {c : Option Nat} {n : Nat} {w : World} (h : Cnt c n w) {i : Nat} {cs : Array Value} {T : TypeId} (hi : w.heap[i]? = some (.cells cs T (0, 0))) (hT : T ≠ 3) : ¬ OnC c i := fun e => by
  have := h i e
  rw [hi] at this
  injection this with this
  injection this with _ e2
  exact hT e2

theorem Cnt.setCell {c : Option Nat} {n : Nat} {w : World} (h : Cnt c n w) {p : Addr} (u : Value) (hp : ¬ OnC c p.block) : Cnt c n (w.setCell p u) := fun b e => by
  rw [heap_setCell_other]
  · exact h b e
  · intro e2; exact hp (by show c = some p.block; rw [e, e2])

theorem Cnt.lt {c : Option Nat} {n : Nat} {w : World} (h : Cnt c n w) {i : Nat} (hi : w.heap.size ≤ i) : ¬ OnC c i := fun e => by
  have := lt_of_blk (h i e)
  omega

theorem Stay.onC {T : TypeId} {a b d : World} {c : Option Nat} {n : Nat} (h : Stay T a b) (hc : Cnt c n b) (k : Keeps (OnC c) b d) (hT : T ≠ 3) : Stay T a d := h.keeps k (fun _ _ e => hc.apart e hT)

theorem str_gtr {a b : ByteArray} {q : Bool} (h : (!(Op.bytesLess a.toList b.toList || a.toList == b.toList)) = q) : binOp .gtr 9 (.string a) (.string b) = pure (.bool q) := by
  simp only [binOp, Op.stringOp, h]

theorem kLt_same {a b : ByteArray} (h : kLt a b = false) (k : kLt b a = false) : (!(Op.bytesLess a.toList b.toList || a.toList == b.toList)) = false := by
  rw [kLt_total h k]; simp

theorem kLt_over {a b : ByteArray} (h : kLt b a = true) : (!(Op.bytesLess a.toList b.toList || a.toList == b.toList)) = true := by
  have h1 := kLt_asymm h
  have h2 : a.toList ≠ b.toList := fun e => by rw [toList_inj e, kLt_irrefl] at h; cases h
  unfold kLt at h1
  simp [h1, h2]

/-- A Map. -/
structure Mp where
  A : UInt64
  B : UInt64

def Mp.a (m : Mp) : Int := (m.A.toNat : Int)

def Mp.b (m : Mp) : Int := (m.B.toNat : Int)

def mZero : Mp := ⟨1, 0⟩

def mJoin (f g : Mp) : Mp := ⟨f.A * g.A, g.A * f.B + g.B⟩

/-- What a Map takes beside its row: nothing that is counted. -/
def mSz (_ : Mp) : Nat := 0

theorem mSz_le (a b : Mp) : mSz (mJoin a b) ≤ mSz a + mSz b := Nat.le_refl _

theorem mZero_a : mZero.a = 1 := rfl

theorem mZero_b : mZero.b = 0 := rfl

theorem u64_mul (x y : UInt64) : IntKind.u64.wrap ((x.toNat : Int) * (y.toNat : Int)) = ((x * y).toNat : Int) := by
  rw [IntKind.wrap_u64, UInt64.toNat_mul]; omega

theorem u64_add (x y : UInt64) : IntKind.u64.wrap ((x.toNat : Int) + (y.toNat : Int)) = ((x + y).toNat : Int) := by
  rw [IntKind.wrap_u64, UInt64.toNat_add]; omega

theorem mJoin_a (f g : Mp) : IntKind.u64.wrap (f.a * g.a) = (mJoin f g).a := u64_mul _ _

theorem mJoin_b (f g : Mp) : IntKind.u64.wrap (IntKind.u64.wrap (g.a * f.b) + g.b) = (mJoin f g).b := by
  unfold Mp.a Mp.b
  rw [u64_mul, u64_add]; rfl

def sSz (s : ByteArray) : Nat := s.size

def sJoin (a b : ByteArray) : ByteArray := a ++ b

def sZero : ByteArray := ⟨#[]⟩

theorem sSz_le (a b : ByteArray) : sSz (sJoin a b) ≤ sSz a + sSz b := by
  unfold sSz sJoin; rw [ByteArray.size_append]; exact Nat.le_refl _

end Go.Proofs.YtlgcdcjhflihiaaDoor
namespace Go.Proofs.YtlgcdcjhflihiaaDoor
open Go.RowKit
set_option linter.unusedVariables false
/-- An entry, plain. -/
structure En where
  k : ByteArray
  c : Int
  n : Int
  v : ByteArray
  d : Bool

theorem ret_bool {a b : Bool} (h : a = b) : Ending.returned (.bool a) = .returned (.bool b) := by rw [h]

theorem cell_in {W W' : World} {p : Addr} {v : Value} (h : W.cell? p = some v) (b : Below W.heap.size W W') : W'.cell? p = some v :=
  (World.cell?_of_block (w := W) (b.block p.block (World.block_lt_of_cell? W _ h))).trans h

/-- The two cells of a sum's block. -/
theorem pair {w : World} {i : Nat} {a b : Value} {T : TypeId} (h : w.heap[i]? = some (.cells #[a, b] T (0, 0))) :
    w.cell? ⟨i, 0, none⟩ = some a ∧ w.cell? ⟨i, 1, none⟩ = some b ∧ w.frozen? ⟨i, 0, none⟩ = false ∧ w.frozen? ⟨i, 1, none⟩ = false :=
  ⟨by simp [World.cell?, h], by simp [World.cell?, h], frozen_of_row w i 0 _ _ h, frozen_of_row w i 1 _ _ h⟩

/-- What is kept of the world in a loop over a sum's two elements: own blocks from n on. -/
structure Two (w wr : World) (i : Nat) (a b : Int) : Prop where
  below : Below w.heap.size w wr
  low : w.heap.size ≤ i
  blk : wr.heap[i]? = some (.cells #[.int .u64 a, .int .u64 b] 62 (0, 0))

end Go.Proofs.YtlgcdcjhflihiaaDoor
namespace Go.Proofs.YtlgcdcjhflihiaaDoor
open Go.RowKit
set_option linter.unusedVariables false
/-- The table of lanes, cell for cell. -/
structure Lanes (w : World) : Prop where
  c0 : w.cell? ⟨0, 0, none⟩ = some (.int .u64 2611923443488327891)
  c1 : w.cell? ⟨0, 1, none⟩ = some (.int .u64 11400714819323198485)
  c2 : w.cell? ⟨0, 2, none⟩ = some (.int .u64 29)
  c3 : w.cell? ⟨0, 3, none⟩ = some (.int .u64 1376283091369227076)
  c4 : w.cell? ⟨0, 4, none⟩ = some (.int .u64 14029467366897019727)
  c5 : w.cell? ⟨0, 5, none⟩ = some (.int .u64 32)

theorem Lanes.keep {w w' : World} (h : Lanes w) (b : Below w.heap.size w w') : Lanes w' :=
  ⟨cell_in h.c0 b, cell_in h.c1 b, cell_in h.c2 b, cell_in h.c3 b, cell_in h.c4 b, cell_in h.c5 b⟩

theorem Lanes.pos {w : World} (h : Lanes w) : 0 < w.heap.size := World.block_lt_of_cell? w _ h.c0

/-- The memory in the loop over a sum's elements. -/
def mix2 (w : World) (x0 x1 r0 r1 : Int) : World :=
  (w.alloc (.cells #[.int .u64 x0, .int .u64 x1] 62)).alloc (.cells #[.int .u64 r0, .int .u64 r1] 62)

theorem mix2_below (w : World) (x0 x1 r0 r1 : Int) : Below w.heap.size w (mix2 w x0 x1 r0 r1) := (bnew w _).alloc (by simp) _

def MixRel (w : World) (a0 a1 s0 s1 : Int) (i : Value) (wr : World) : Prop :=
  (i = .int .i64 0 ∧ wr = mix2 w a0 a1 0 0) ∨ (i = .int .i64 1 ∧ wr = (mix2 w s0 a1 0 0).drew.drew) ∨ (i = .int .i64 2 ∧ wr = (mix2 w s0 s1 0 0).drew.drew.drew.drew)

/-- One word mixed into a lane. -/
def mixI (f : Int) (s : Nat) (x u : Int) : Int :=
  bits .xor .u64 (IntKind.u64.wrap (bits .xor .u64 x u * f)) (IntKind.u64.wrap (bits .xor .u64 x u * f) / 2 ^ s)

set_option maxHeartbeats 1600000 in
set_option maxRecDepth 100000 in
theorem mixed_any (a0 a1 u : Int) (w : World) (L : Lanes w) :
    Calls Tryd.prog 89 #[.agg #[.int .u64 a0, .int .u64 a1], .int .u64 u] w fun e w' => e = .returned (.agg #[.int .u64 (mixI 11400714819323198485 29 a0 u), .int .u64 (mixI 14029467366897019727 32 a1 u)]) ∧ Below w.heap.size w w' := by
  have h0 := L.pos
  obtain ⟨c0, c1, c2, c3, c4, c5⟩ := L
  go_enter Tryd.func89, Tryd.ntmps89
  go_wp2
  go_loopw [6] (fun i wr => MixRel w a0 a1 (mixI 11400714819323198485 29 a0 u) (mixI 14029467366897019727 32 a1 u) i wr) (fun i _ => 2 - (intOf i).toNat)
  case atStart => exact .inl ⟨rfl, rfl⟩
  case round =>
    obtain ⟨rfl, rfl⟩ | ⟨rfl, rfl⟩ | ⟨rfl, rfl⟩ := hrel
    · unfold mix2
      go_wp2
      go_region
      go_wp2
      go_region
      go_wp2
      go_roundw
      case rel => exact .inr (.inl ⟨rfl, rfl⟩)
      case measure => simp [intOf]
    · unfold mix2
      go_wp2
      go_region
      go_wp2
      go_region
      go_wp2
      go_roundw
      case rel => exact .inr (.inr ⟨rfl, rfl⟩)
      case measure => simp [intOf]
    · unfold mix2
      go_wp2
      exact bodyPost_ret (v := .agg #[.int .u64 (mixI 11400714819323198485 29 a0 u), .int .u64 (mixI 14029467366897019727 32 a1 u)]) (by simp [results, Tryd.results89, go_sem]) rfl ⟨rfl, (mix2_below w _ _ _ _).drew.drew.drew.drew⟩

end Go.Proofs.YtlgcdcjhflihiaaDoor
namespace Go.Proofs.YtlgcdcjhflihiaaDoor
open Go.ChangeShapes Go.WideShapes Go.ChangeAt Go.RowKit
set_option linter.unusedVariables false
theorem own : ownKnob Tryd.prog.godebug = none := by kernel_rfl

theorem laidOut : laidOutB Tryd.prog = true := by kernel_rfl

theorem cellsVer : Tryd.prog.cellsOf 37 = 2 := by kernel_rfl

theorem cellsEnt : Tryd.prog.cellsOf 39 = 5 := by kernel_rfl

theorem bytesEnt : Tryd.prog.bytesOf 39 = 56 := by kernel_rfl

theorem cellsInt : Tryd.prog.cellsOf 3 = 1 := by kernel_rfl

theorem cellsStr : Tryd.prog.cellsOf 9 = 1 := by kernel_rfl

theorem cellsBool : Tryd.prog.cellsOf 4 = 1 := by kernel_rfl

theorem cellsU64 : Tryd.prog.cellsOf 60 = 1 := by kernel_rfl

theorem cellsUint : Tryd.prog.cellsOf 151 = 1 := by kernel_rfl

theorem cellsSum : Tryd.prog.cellsOf 62 = 2 := by kernel_rfl

theorem cellsLane : Tryd.prog.cellsOf 153 = 3 := by kernel_rfl

theorem cellsLanes : Tryd.prog.cellsOf 154 = 6 := by kernel_rfl

theorem gLanes : Tryd.prog.globalNamed "tideline/mix.lanes" = some 0 := by kernel_rfl

theorem gLanesType : (Tryd.prog.globals[0]?).map (·.type) = some 154 := by kernel_rfl

variable {H : Type} {enc : TypeId × Value → H} {W : World}
set_option maxRecDepth 100000 in
/-- One row of the table, from its reading. -/
theorem lane_cells {b0 : Nat} {sp : Nat → Bool} {held : Bool} {fuel : Nat} {cs : List Value} {a f s : Int} {p : List MemPlace} (h : DataW.trod enc Tryd.prog W b0 sp held fuel 153 cs = some ((.agg [.lit (.int .u64 a), .lit (.int .u64 f), .lit (.int .u64 s)] : DataW H), p)) :
    cs = [.int .u64 a, .int .u64 f, .int .u64 s] := by
  obtain ⟨y0, y1, y2, m, hx, hl, h0, h1, h2⟩ := Deep.trod_struct3 Tryd.underlying153 h
  rw [cellsLane] at hl
  match cs, hl with
  | [v0, v1, v2], _ =>
    simp [cellsU64, cellsUint] at h0 h1 h2
    obtain ⟨z0, e0, rfl, -⟩ := DataW.trod_int Tryd.underlying60 h0
    obtain ⟨z1, e1, rfl, -⟩ := DataW.trod_int Tryd.underlying60 h1
    obtain ⟨z2, e2, rfl, -⟩ := DataW.trod_int Tryd.underlying151 h2
    simp only [List.cons.injEq, and_true] at e0 e1 e2
    subst e0 e1 e2
    simp at hx
    obtain ⟨⟨rfl, rfl, rfl⟩, -⟩ := hx
    rfl

set_option maxRecDepth 100000 in
theorem lanes_of {W : World} (h : laidMet Tryd.prog [("tideline/mix.lanes", Rows.laid_tideline_mix_lanes)] W) : Lanes W := by
  obtain ⟨ps, ⟨g', t', cs, fuel, p, q, hg', ht', hvar, hd, _, _⟩, _⟩ := h
  obtain rfl := Option.some.inj (gLanes.symm.trans hg')
  obtain rfl := Option.some.inj (gLanesType.symm.trans ht')
  obtain ⟨xs, m, _, hx, hl, hxl, hel⟩ := DataW.trod_array Tryd.underlying154 hd
  rw [cellsLanes] at hl
  rw [cellsLane] at hel
  match xs, hxl with
  | [x0, x1], _ =>
    have g0 := hel 0 (by omega)
    have g1 := hel 1 (by omega)
    simp only [Rows.laid_tideline_mix_lanes, Prod.mk.injEq, List.map_cons, List.map_nil, DataW.agg.injEq, List.cons.injEq, and_true] at hx
    obtain ⟨⟨q0, q1⟩, -⟩ := hx
    have e0 := lane_cells (p := x0.2) (g0.trans (by rw [List.getElem?_cons_zero, q0]))
    have e1 := lane_cells (p := x1.2) (g1.trans (by rw [List.getElem?_cons_succ, List.getElem?_cons_zero, q1]))
    obtain ⟨l⟩ := cs
    match l, hl with
    | [v0, v1, v2, v3, v4, v5], _ =>
      simp at e0 e1
      obtain ⟨rfl, rfl, rfl⟩ := e0
      obtain ⟨rfl, rfl, rfl⟩ := e1
      exact ⟨World.var?_cell gLanes hvar 0, World.var?_cell gLanes hvar 1, World.var?_cell gLanes hvar 2, World.var?_cell gLanes hvar 3, World.var?_cell gLanes hvar 4, World.var?_cell gLanes hvar 5⟩

set_option maxRecDepth 100000 in
theorem open_ver {b0 : Nat} {sp : Nat → Bool} {held : Bool} {v : Value} {d : DataW H} {p : List MemPlace} (hv : Value.okWide Tryd.prog W .any b0 37 v) (h : DataW.Trod enc Tryd.prog W 0 sp held 37 v d p) :
    ∃ (c n : Int), v = .agg #[.int .i64 c, .int .i64 n] ∧ (-9223372036854775808 ≤ c ∧ c ≤ 9223372036854775807) ∧ (-9223372036854775808 ≤ n ∧ n ≤ 9223372036854775807) := by
  obtain ⟨c0, c1, y0, y1, m, rfl, rfl, rfl, hy0, hy1⟩ := Joins.open_agg2 Tryd.underlying37 (by kernel_rfl) cellsVer hv h
  obtain ⟨c, e0, rfl, w0⟩ := DataW.trod_int Tryd.underlying3 hy0
  obtain ⟨n, e1, rfl, w1⟩ := DataW.trod_int Tryd.underlying3 hy1
  simp only [List.cons.injEq, and_true] at e0 e1
  subst e0 e1
  exact ⟨c, n, rfl, bounds_i64 w0, bounds_i64 w1⟩

theorem str_size {s : ByteArray} (h : ∀ n ∈ (DataW.lit (.string s.data.toList) : DataW H).weights Tryd.prog 9, n ≤ reachBytes) : s.size ≤ 140737488351232 := by
  have := h s.data.toList.length (by simp [DataW.weights])
  have e : s.data.toList.length = s.size := by show s.data.toList.length = s.data.size; simp
  rw [e] at this
  exact this

set_option maxRecDepth 100000 in
/-- A sum, opened: its two numbers, of 64 bits. -/
theorem open_sum {b0 : Nat} {sp : Nat → Bool} {held : Bool} {v : Value} {d : DataW H} {p : List MemPlace} (hv : Value.okWide Tryd.prog W .any b0 62 v) (h : DataW.Trod enc Tryd.prog W 0 sp held 62 v d p) :
    ∃ (a b : Nat), v = .agg #[.int .u64 (a : Int), .int .u64 (b : Int)] ∧ a < 18446744073709551616 ∧ b < 18446744073709551616 := by
  simp only [Value.okWide, Tryd.underlying62] at hv
  obtain ⟨cs, rfl, hsz, _⟩ := hv
  rw [cellsSum] at hsz
  obtain ⟨fuel, hf⟩ := h
  obtain ⟨xs, m, _, hx, hl, hxl, hel⟩ := DataW.trod_array Tryd.underlying62 hf
  rw [cellsU64] at hel
  obtain ⟨l⟩ := cs
  match xs, hxl, l, hsz with
  | [x0, x1], _, [v0, v1], _ =>
    have g0 := hel 0 (by omega)
    have g1 := hel 1 (by omega)
    simp [Value.cells] at g0 g1
    obtain ⟨z0, e0, f0, w0⟩ := DataW.trod_int Tryd.underlying60 g0
    obtain ⟨z1, e1, f1, w1⟩ := DataW.trod_int Tryd.underlying60 g1
    simp only [List.cons.injEq, and_true] at e0 e1
    subst e0 e1
    have b0 := bounds_u64 w0
    have b1 := bounds_u64 w1
    refine ⟨z0.toNat, z1.toNat, ?_, by omega, by omega⟩
    rw [show ((z0.toNat : Nat) : Int) = z0 from by omega, show ((z1.toNat : Nat) : Int) = z1 from by omega]

end Go.Proofs.YtlgcdcjhflihiaaDoor
namespace Go.Proofs.YtlgcdcjhflihiaaDoor
open Go.RowKit
set_option linter.unusedVariables false
namespace Tr
variable {β α : Type}
def hangC (l r : Tr β α) : Nat := (if l.isNil then 0 else 1) + (if r.isNil then 0 else 1)

def turnRC (l r : Tr β α) : Nat :=
  match l with
  | nil => 0
  | node ll _ _ _ lr =>
    if lr.ht ≤ ll.ht then hangC lr r + (if ll.isNil then 1 else 2) else
      match lr with
      | nil => 0
      | node a _ _ _ b => hangC ll a + hangC b r + 2

def turnLC (l r : Tr β α) : Nat :=
  match r with
  | nil => 0
  | node rl _ _ _ rr =>
    if rl.ht ≤ rr.ht then hangC l rl + (if rr.isNil then 1 else 2) else
      match rl with
      | nil => 0
      | node a _ _ _ b => hangC l a + hangC b rr + 2

def levelC (l r : Tr β α) : Nat := if l.ht = r.ht + 2 then turnRC l r else if r.ht = l.ht + 2 then turnLC l r else hangC l r

theorem hangC_le (l r : Tr β α) : hangC l r ≤ 2 := by unfold hangC; split <;> split <;> omega

theorem levelC_le (l r : Tr β α) : levelC l r ≤ 6 := by
  unfold levelC
  have h0 := hangC_le l r
  split
  · cases l with
    | nil => simp [turnRC]
    | node ll k v s lr =>
      simp only [turnRC]
      split
      · have := hangC_le lr r; split <;> omega
      · cases lr with
        | nil => simp
        | node a k v s b => have := hangC_le ll a; have := hangC_le b r; simp only; omega
  · split
    · cases r with
      | nil => simp [turnLC]
      | node rl k v s rr =>
        simp only [turnLC]
        split
        · have := hangC_le l rl; split <;> omega
        · cases rl with
          | nil => simp
          | node a k v s b => have := hangC_le l a; have := hangC_le b rr; simp only; omega
    · omega

end Tr
end Go.Proofs.YtlgcdcjhflihiaaDoor
namespace Go.Proofs.YtlgcdcjhflihiaaDoor
open Go.RowKit
set_option linter.unusedVariables false
namespace Tr
variable {β α : Type}
/-- The trees on the way down to k, without the last one. -/
def path (k : ByteArray) : Tr β α → List (Tr β α)
  | nil => []
  | node l k' v s r => if kLt k k' then node l k' v s r :: path k l else if kLt k' k then node l k' v s r :: path k r else []

/-- The tree at the end of the way. -/
def found (k : ByteArray) : Tr β α → Tr β α
  | nil => nil
  | node l k' v s r => if kLt k k' then found k l else if kLt k' k then found k r else node l k' v s r

/-- How many rows have a lower key. -/
def lower (k : ByteArray) : Tr β α → Nat
  | nil => 0
  | node l k' v s r => if kLt k k' then lower k l else if kLt k' k then l.cnt + 1 + lower k r else l.cnt

theorem path_le (k : ByteArray) : ∀ t : Tr β α, (path k t).length ≤ t.ht
  | nil => Nat.le_refl _
  | node l k' v s r => by
    have h1 := path_le k l
    have h2 := path_le k r
    simp only [path, ht]
    split
    · simp only [List.length_cons]; omega
    · split
      · simp only [List.length_cons]; omega
      · simp

theorem lower_le (k : ByteArray) : ∀ t : Tr β α, lower k t ≤ t.cnt
  | nil => Nat.le_refl _
  | node l k' v s r => by
    have h1 := lower_le k l
    have h2 := lower_le k r
    simp only [lower, cnt]
    split
    · omega
    · split <;> omega

/-- What the row becomes at the end of the way. -/
def base (k : ByteArray) (v : β) (s : α) (t : Tr β α) : Tr β α :=
  match t with
  | nil => node nil k v s nil
  | node l _ _ _ r => node l k v s r

/-- One step back up. -/
def step (k : ByteArray) (t made : Tr β α) : Tr β α :=
  match t with
  | nil => made
  | node l k' v' s' r => if kLt k k' then level k' v' s' made r else level k' v' s' l made

def stepC (k : ByteArray) (t made : Tr β α) : Nat :=
  match t with
  | nil => 0
  | node l k' v' s' r => if kLt k k' then levelC made r else levelC l made

/-- All the way back up, the trees as they come. -/
def ups (k : ByteArray) (made : Tr β α) (l : List (Tr β α)) : Tr β α := l.foldl (fun m t => step k t m) made

def upsC (k : ByteArray) (made : Tr β α) : List (Tr β α) → Nat
  | [] => 0
  | t :: l => stepC k t made + upsC k (step k t made) l

theorem ups_snoc (k : ByteArray) (made : Tr β α) (l : List (Tr β α)) (t : Tr β α) : ups k made (l ++ [t]) = step k t (ups k made l) := by simp [ups]

theorem upsC_snoc (k : ByteArray) : ∀ (l : List (Tr β α)) (made t : Tr β α), upsC k made (l ++ [t]) = upsC k made l + stepC k t (ups k made l)
  | [], made, t => by simp [upsC, ups]
  | x :: l, made, t => by
    have := upsC_snoc k l (step k x made) t
    simp only [List.cons_append, upsC, this, ups, List.foldl_cons]
    omega

theorem stepC_le (k : ByteArray) (t made : Tr β α) : stepC k t made ≤ 6 := by
  unfold stepC
  split
  · omega
  · split
    · exact levelC_le _ _
    · exact levelC_le _ _

theorem upsC_le (k : ByteArray) : ∀ (l : List (Tr β α)) (made : Tr β α), upsC k made l ≤ 6 * l.length
  | [], _ => Nat.le_refl _
  | t :: l, made => by
    have h1 := stepC_le k t made
    have h2 := upsC_le k l (step k t made)
    simp only [upsC, List.length_cons]
    omega

theorem put_ups (k : ByteArray) (v : β) (s : α) : ∀ t : Tr β α, ups k (base k v s (found k t)) (path k t).reverse = put k v s t
  | nil => rfl
  | node l k' v' s' r => by
    have h1 := put_ups k v s l
    have h2 := put_ups k v s r
    simp only [path, found, put]
    split
    · rename_i h
      rw [List.reverse_cons, ups_snoc, h1]
      simp [step, h]
    · rename_i h
      split
      · rw [List.reverse_cons, ups_snoc, h2]
        simp [step, h]
      · rfl

theorem wt_step (z : α → Nat) (k : ByteArray) (t made : Tr β α) : (step k t made).wt z ≤ t.wt z + made.wt z := by
  unfold step
  split
  · omega
  · split
    · rw [wt_level]; simp only [wt]; omega
    · rw [wt_level]; simp only [wt]; omega

theorem wt_ups (z : α → Nat) (k : ByteArray) (M : Nat) : ∀ (l : List (Tr β α)) (made : Tr β α), (∀ t ∈ l, t.wt z ≤ M) → (ups k made l).wt z ≤ made.wt z + l.length * M
  | [], made, _ => by simp [ups]
  | t :: l, made, h => by
    have h1 := wt_ups z k M l (step k t made) (fun x hx => h x (List.mem_cons_of_mem _ hx))
    have h2 := wt_step z k t made
    have h3 := h t List.mem_cons_self
    simp only [ups, List.foldl_cons, List.length_cons] at h1 ⊢
    rw [Nat.succ_mul]
    omega

theorem wt_path (z : α → Nat) (k : ByteArray) : ∀ (t x : Tr β α), x ∈ path k t → x.wt z ≤ t.wt z
  | nil, x, h => by simp [path] at h
  | node l k' v s r, x, h => by
    have h1 := wt_path z k l x
    have h2 := wt_path z k r x
    simp only [path] at h
    split at h
    · rcases List.mem_cons.1 h with rfl | h
      · exact Nat.le_refl _
      · have := h1 h; simp only [wt]; omega
    · split at h
      · rcases List.mem_cons.1 h with rfl | h
        · exact Nat.le_refl _
        · have := h2 h; simp only [wt]; omega
      · cases h

theorem wt_found (z : α → Nat) (k : ByteArray) : ∀ t : Tr β α, (found k t).wt z ≤ t.wt z
  | nil => Nat.le_refl _
  | node l k' v s r => by
    have h1 := wt_found z k l
    have h2 := wt_found z k r
    simp only [found]
    split
    · simp only [wt]; omega
    · split
      · simp only [wt]; omega
      · exact Nat.le_refl _

theorem wt_base (z : α → Nat) (k : ByteArray) (v : β) (s : α) (t : Tr β α) : (base k v s t).wt z ≤ t.wt z + 1 + z s := by
  cases t <;> simp only [base, wt] <;> omega

theorem path_node (k : ByteArray) : ∀ (t x : Tr β α), x ∈ path k t → x.isNil = false
  | nil, x, h => by simp [path] at h
  | node l k' v s r, x, h => by
    have h1 := path_node k l x
    have h2 := path_node k r x
    simp only [path] at h
    split at h
    · rcases List.mem_cons.1 h with rfl | h
      · rfl
      · exact h1 h
    · split at h
      · rcases List.mem_cons.1 h with rfl | h
        · rfl
        · exact h2 h
      · cases h

/-- How often a Put joins. -/
def putC (k : ByteArray) (v : β) (s : α) (t : Tr β α) : Nat :=
  (match found k t with
    | nil => 0
    | node l _ _ _ r => hangC l r) + upsC k (base k v s (found k t)) (path k t).reverse

theorem putC_le (k : ByteArray) (v : β) (s : α) (t : Tr β α) : putC k v s t ≤ 6 * t.ht + 2 := by
  have h1 := upsC_le k (path k t).reverse (base k v s (found k t))
  have h2 := path_le k t
  rw [List.length_reverse] at h1
  unfold putC
  split
  · omega
  · rename_i l _ _ _ r _
    have := hangC_le l r
    omega

end Tr
end Go.Proofs.YtlgcdcjhflihiaaDoor
namespace Go.Proofs.YtlgcdcjhflihiaaDoor
open Go.RowKit
theorem sum_in (a b c d : Int) (w : World) : (Op.equalIn 10000 62 (.agg #[.int .u64 a, .int .u64 b]) (.agg #[.int .u64 c, .int .u64 d])).run Tryd.prog w = .ok (a == c && b == d) w := by
  have u3 := Tryd.underlying60
  have a3 := Tryd.isAgg60
  have z3 := Tryd.sizeOf60
  rw [show (10000 : Nat) = 9999 + 1 from rfl, Op.equalIn]
  simp only [Sem.run_bind, run_underlying Tryd.underlying62, Result.andThen_ok]
  simp only [Std.Legacy.Range.forIn_eq_forIn_range', Std.Legacy.Range.size, Nat.sub_zero, Nat.add_sub_cancel, Nat.div_one, List.range'_succ, List.range'_zero, List.forIn_cons, List.forIn_nil]
  go_simp
  by_cases h1 : a = c <;> by_cases h2 : b = d <;> simp [h1, h2]

theorem sum_run (a b c d : Int) (w : World) : (binOp .eql 62 (.agg #[.int .u64 a, .int .u64 b]) (.agg #[.int .u64 c, .int .u64 d])).run Tryd.prog w = .ok (.bool (a == c && b == d)) w := by
  rw [run_eql_struct, sum_in]; rfl

theorem sum_ne_run (a b c d : Int) (w : World) : (binOp .neq 62 (.agg #[.int .u64 a, .int .u64 b]) (.agg #[.int .u64 c, .int .u64 d])).run Tryd.prog w = .ok (.bool (!(a == c && b == d))) w := by
  rw [run_neq_struct, sum_in]; rfl

theorem sum_same (a b : Int) (w : World) : (binOp .eql 62 (.agg #[.int .u64 a, .int .u64 b]) (.agg #[.int .u64 a, .int .u64 b])).run Tryd.prog w = .ok (.bool true) w := by
  rw [sum_run]; simp

theorem sum_yes {a b c d : Int} (h1 : a = c) (h2 : b = d) (w : World) : (binOp .eql 62 (.agg #[.int .u64 a, .int .u64 b]) (.agg #[.int .u64 c, .int .u64 d])).run Tryd.prog w = .ok (.bool true) w := by
  rw [sum_run, h1, h2]; simp

theorem sum_ne_no {a b c d : Int} (h1 : a = c) (h2 : b = d) (w : World) : (binOp .neq 62 (.agg #[.int .u64 a, .int .u64 b]) (.agg #[.int .u64 c, .int .u64 d])).run Tryd.prog w = .ok (.bool false) w := by
  rw [sum_ne_run, h1, h2]; simp

end Go.Proofs.YtlgcdcjhflihiaaDoor
namespace Go.Proofs.YtlgcdcjhflihiaaDoor
open Go.RowKit
set_option linter.unusedVariables false
/-- The three cells of a tally's block. -/
theorem tri {w : World} {i : Nat} {a b c : Value} {T : TypeId} (h : w.heap[i]? = some (.cells #[a, b, c] T (0, 0))) :
    w.cell? ⟨i, 0, none⟩ = some a ∧ w.cell? ⟨i, 1, none⟩ = some b ∧ w.cell? ⟨i, 2, none⟩ = some c ∧ w.frozen? ⟨i, 0, none⟩ = false ∧ w.frozen? ⟨i, 1, none⟩ = false ∧ w.frozen? ⟨i, 2, none⟩ = false :=
  ⟨by simp [World.cell?, h], by simp [World.cell?, h], by simp [World.cell?, h], frozen_of_row w i 0 _ _ h, frozen_of_row w i 1 _ _ h, frozen_of_row w i 2 _ _ h⟩

/-- A store into another block. -/
theorem cell_apart {X : World} {i k : Nat} {p : Addr} {u v : Value} (h : X.cell? p = some v) (hne : p.block ≠ i) : (X.setCell ⟨i, k, none⟩ u).cell? p = some v :=
  (World.cell?_setCell_other _ _ _ _ (fun e => hne (by rw [← e]))).trans h

theorem sum_in9 (a b c d : Int) (w : World) : (Op.equalIn 9999 62 (.agg #[.int .u64 a, .int .u64 b]) (.agg #[.int .u64 c, .int .u64 d])).run Tryd.prog w = .ok (a == c && b == d) w := by
  have u3 := Tryd.underlying60
  have a3 := Tryd.isAgg60
  have z3 := Tryd.sizeOf60
  rw [show (9999 : Nat) = 9998 + 1 from rfl, Op.equalIn]
  simp only [Sem.run_bind, run_underlying Tryd.underlying62, Result.andThen_ok]
  simp only [Std.Legacy.Range.forIn_eq_forIn_range', Std.Legacy.Range.size, Nat.sub_zero, Nat.add_sub_cancel, Nat.div_one, List.range'_succ, List.range'_zero, List.forIn_cons, List.forIn_nil]
  go_simp
  by_cases h1 : a = c <;> by_cases h2 : b = d <;> simp [h1, h2]

theorem tal_in (n a b m c d : Int) (w : World) : (Op.equalIn 10000 64 (.agg #[.int .i64 n, .int .u64 a, .int .u64 b]) (.agg #[.int .i64 m, .int .u64 c, .int .u64 d])).run Tryd.prog w = .ok (n == m && (a == c && b == d)) w := by
  have e := sum_in9 a b c d w
  rw [show (10000 : Nat) = 9999 + 1 from rfl]
  go_simp
  by_cases h1 : n = m <;> by_cases h2 : a = c <;> by_cases h3 : b = d <;> simp [h1, h2, h3]

theorem tal_run (n a b m c d : Int) (w : World) : (binOp .eql 64 (.agg #[.int .i64 n, .int .u64 a, .int .u64 b]) (.agg #[.int .i64 m, .int .u64 c, .int .u64 d])).run Tryd.prog w = .ok (.bool (n == m && (a == c && b == d))) w := by
  rw [run_eql_struct, tal_in]; rfl

theorem tal_ne_run (n a b m c d : Int) (w : World) : (binOp .neq 64 (.agg #[.int .i64 n, .int .u64 a, .int .u64 b]) (.agg #[.int .i64 m, .int .u64 c, .int .u64 d])).run Tryd.prog w = .ok (.bool (!(n == m && (a == c && b == d)))) w := by
  rw [run_neq_struct, tal_in]; rfl

theorem tal_same (n a b : Int) (w : World) : (binOp .eql 64 (.agg #[.int .i64 n, .int .u64 a, .int .u64 b]) (.agg #[.int .i64 n, .int .u64 a, .int .u64 b])).run Tryd.prog w = .ok (.bool true) w := by
  rw [tal_run]; simp

theorem tal_ne_same (n a b : Int) (w : World) : (binOp .neq 64 (.agg #[.int .i64 n, .int .u64 a, .int .u64 b]) (.agg #[.int .i64 n, .int .u64 a, .int .u64 b])).run Tryd.prog w = .ok (.bool false) w := by
  rw [tal_ne_run]; simp

end Go.Proofs.YtlgcdcjhflihiaaDoor
namespace Go.Proofs.YtlgcdcjhflihiaaDoor
open Go.RowKit
set_option linter.unusedVariables false

/-- How often a join was called: the meter in the block c says so. -/
def CntE (c : Option Nat) (n : Nat) (w : World) : Prop := ∀ b : Nat, c = some b → w.heap[b]? = some (.cells #[.int .i64 (IntKind.i64.wrap (n : Int))] 149 (0, 0))

theorem CntE.drew {c : Option Nat} {n : Nat} {w : World} (h : CntE c n w) : CntE c n w.drew := h
theorem CntE.alloc {c : Option Nat} {n : Nat} {w : World} (h : CntE c n w) (o : Obj) : CntE c n (w.alloc o) := fun b e => blk_on (h b e) (bnew _ _)
theorem CntE.keep {S : Nat → Prop} {c : Option Nat} {n : Nat} {w w' : World} (h : CntE c n w) (k : Keeps S w w') (hS : ∀ b, c = some b → ¬ S b) : CntE c n w' := fun b e => blk_keep (h b e) k (hS b e)
theorem CntE.below {c : Option Nat} {n : Nat} {w w' : World} (h : CntE c n w) (k : Below w.heap.size w w') : CntE c n w' := fun b e => blk_on (h b e) k
theorem CntE.apart {c : Option Nat} {n : Nat} {w : World} (h : CntE c n w) {i : Nat} {cs : Array Value} {T : TypeId} (hi : w.heap[i]? = some (.cells cs T (0, 0))) (hT : T ≠ 149) : ¬ OnC c i := fun e => by
  have := h i e
  rw [hi] at this
  injection this with this
  injection this with _ e2
  exact hT e2
theorem CntE.setCell {c : Option Nat} {n : Nat} {w : World} (h : CntE c n w) {p : Addr} (u : Value) (hp : ¬ OnC c p.block) : CntE c n (w.setCell p u) := fun b e => by
  rw [heap_setCell_other]
  · exact h b e
  · intro e2; exact hp (by show c = some p.block; rw [e, e2])
theorem CntE.lt {c : Option Nat} {n : Nat} {w : World} (h : CntE c n w) {i : Nat} (hi : w.heap.size ≤ i) : ¬ OnC c i := fun e => by
  have := lt_of_blk (h i e)
  omega
theorem Stay.onE {T : TypeId} {a b d : World} {c : Option Nat} {n : Nat} (h : Stay T a b) (hc : CntE c n b) (k : Keeps (OnC c) b d) (hT : T ≠ 149) : Stay T a d := h.keeps k (fun _ _ e => hc.apart e hT)

/-- A tally. -/
structure Tl where
  N : Int64
  A : UInt64
  B : UInt64

def Tl.n (t : Tl) : Int := t.N.toInt
def Tl.a (t : Tl) : Int := (t.A.toNat : Int)
def Tl.b (t : Tl) : Int := (t.B.toNat : Int)
def tZero : Tl := ⟨0, 0, 0⟩
def tJoin (f g : Tl) : Tl := ⟨f.N + g.N, f.A + g.A, f.B + g.B⟩
/-- What a tally takes beside its row: nothing that is counted. -/
def tSz (_ : Tl) : Nat := 0
theorem tSz_le (a b : Tl) : tSz (tJoin a b) ≤ tSz a + tSz b := Nat.le_refl _
theorem tZero_n : tZero.n = 0 := rfl
theorem tZero_a : tZero.a = 0 := rfl
theorem tZero_b : tZero.b = 0 := rfl
theorem tJoin_n (f g : Tl) : IntKind.i64.wrap (f.n + g.n) = (tJoin f g).n := by
  show _ = (f.N + g.N).toInt
  rw [Int64.toInt_add, IntKind.wrap_i64, Int.bmod_def]
  unfold Tl.n
  split <;> omega
theorem tJoin_a (f g : Tl) : IntKind.u64.wrap (f.a + g.a) = (tJoin f g).a := u64_add _ _
theorem tJoin_b (f g : Tl) : IntKind.u64.wrap (f.b + g.b) = (tJoin f g).b := u64_add _ _
theorem tJoin_assoc (a b c : Tl) : tJoin (tJoin a b) c = tJoin a (tJoin b c) := by
  simp only [tJoin, Tl.mk.injEq]
  exact ⟨Int64.add_assoc _ _ _, UInt64.add_assoc _ _ _, UInt64.add_assoc _ _ _⟩

/-- An entry that is none. -/
def eNone : En := ⟨⟨#[]⟩, 0, 0, ⟨#[]⟩, false⟩

/-- The five cells of an entry's block. -/
theorem penta {w : World} {i : Nat} {a b c d e : Value} {T : TypeId} (h : w.heap[i]? = some (.cells #[a, b, c, d, e] T (0, 0))) :
    w.cell? ⟨i, 0, none⟩ = some a ∧ w.cell? ⟨i, 1, none⟩ = some b ∧ w.cell? ⟨i, 2, none⟩ = some c ∧ w.cell? ⟨i, 3, none⟩ = some d ∧ w.cell? ⟨i, 4, none⟩ = some e ∧ w.frozen? ⟨i, 0, none⟩ = false ∧ w.frozen? ⟨i, 1, none⟩ = false ∧ w.frozen? ⟨i, 2, none⟩ = false ∧ w.frozen? ⟨i, 3, none⟩ = false ∧ w.frozen? ⟨i, 4, none⟩ = false :=
  ⟨by simp [World.cell?, h], by simp [World.cell?, h], by simp [World.cell?, h], by simp [World.cell?, h], by simp [World.cell?, h], frozen_of_row w i 0 _ _ h, frozen_of_row w i 1 _ _ h, frozen_of_row w i 2 _ _ h, frozen_of_row w i 3 _ _ h, frozen_of_row w i 4 _ _ h⟩

/-- Three cells of a block set. -/
def set3 (W : World) (g : Nat) (y : Tl) : World := ((W.setCell ⟨g, 0, none⟩ (.int .i64 y.n)).setCell ⟨g, 1, none⟩ (.int .u64 y.a)).setCell ⟨g, 2, none⟩ (.int .u64 y.b)

theorem set3_same {W : World} {g : Nat} {x0 x1 x2 : Value} (h : W.heap[g]? = some (.cells #[x0, x1, x2] 64 (0, 0))) (y : Tl) : (set3 W g y).heap[g]? = some (.cells #[.int .i64 y.n, .int .u64 y.a, .int .u64 y.b] 64 (0, 0)) := by
  have h1 := heap_setCell_same W g 0 _ _ (.int .i64 y.n) h
  have h2 := heap_setCell_same _ g 1 _ _ (.int .u64 y.a) h1
  exact heap_setCell_same _ g 2 _ _ (.int .u64 y.b) h2
theorem set3_other (W : World) (g k : Nat) (y : Tl) (h : k ≠ g) : (set3 W g y).heap[k]? = W.heap[k]? := by
  unfold set3
  rw [heap_setCell_other _ _ _ _ h, heap_setCell_other _ _ _ _ h, heap_setCell_other _ _ _ _ h]
theorem set3_cell {W : World} {g : Nat} {p : Addr} {v : Value} (y : Tl) (h : W.cell? p = some v) (hne : p.block ≠ g) : (set3 W g y).cell? p = some v := by
  unfold set3
  rw [World.cell?_setCell_other _ _ _ _ (fun e => hne (by rw [← e])), World.cell?_setCell_other _ _ _ _ (fun e => hne (by rw [← e])), World.cell?_setCell_other _ _ _ _ (fun e => hne (by rw [← e]))]
  exact h
theorem Keeps.set3 {S : Nat → Prop} {a w : World} (h : Keeps S a w) {g : Nat} (hg : g < a.heap.size → S g) (y : Tl) : Keeps S a (set3 w g y) :=
  ((h.setCell (p := ⟨g, 0, none⟩) hg _).setCell (p := ⟨g, 1, none⟩) hg _).setCell (p := ⟨g, 2, none⟩) hg _
theorem CntE.set3 {c : Option Nat} {n : Nat} {w : World} (h : CntE c n w) {g : Nat} (hg : ¬ OnC c g) (y : Tl) : CntE c n (set3 w g y) :=
  ((h.setCell (p := ⟨g, 0, none⟩) _ hg).setCell (p := ⟨g, 1, none⟩) _ hg).setCell (p := ⟨g, 2, none⟩) _ hg
theorem Stay.set3 {T : TypeId} {a b : World} (h : Stay T a b) {g : Nat} {x0 x1 x2 : Value} (hg : b.heap[g]? = some (.cells #[x0, x1, x2] 64 (0, 0))) (hT : T ≠ 64) (y : Tl) : Stay T a (set3 b g y) := fun i cs e => by
  have e1 := h i cs e
  rw [set3_other]
  · exact e1
  · rintro rfl; rw [hg] at e1; simp at e1; exact hT e1.2.symm

end Go.Proofs.YtlgcdcjhflihiaaDoor
namespace Go.Proofs.YtlgcdcjhflihiaaDoor
open Go.RowKit
set_option linter.unusedVariables false

/-- p points to the tree t. -/
def IsTE (w : World) : Option Addr → Tr En Tl → Prop
  | p, .nil => p = none
  | p, .node l k v s r => ∃ b lp rp, p = some ⟨b, 0, none⟩ ∧ w.heap[b]? = some (.cells #[.string k, .string v.k, .int .i64 v.c, .int .i64 v.n, .string v.v, .bool v.d, .int .i64 s.n, .int .u64 s.a, .int .u64 s.b, .pointer lp, .pointer rp, .int .i64 ((Tr.node l k v s r).cnt : Int), .int .i64 ((Tr.node l k v s r).ht : Int), .int .i64 ((Tr.node l k v s r).sum tJoin tZero).n, .int .u64 ((Tr.node l k v s r).sum tJoin tZero).a, .int .u64 ((Tr.node l k v s r).sum tJoin tZero).b] 120 (0, 0)) ∧ IsTE w lp l ∧ IsTE w rp r

theorem IsTE.stay {w w' : World} (h : Stay 120 w w') : ∀ (t : Tr En Tl) (p : Option Addr), IsTE w p t → IsTE w' p t
  | .nil, _, e => e
  | .node l k v s r, _, ⟨b, lp, rp, e, hb, hl, hr⟩ => ⟨b, lp, rp, e, h _ _ hb, IsTE.stay h l lp hl, IsTE.stay h r rp hr⟩

theorem IsTE.on {w w' : World} {p : Option Addr} {t : Tr En Tl} (i : IsTE w p t) (h : Stay 120 w w') : IsTE w' p t := IsTE.stay h t p i

theorem IsTE.isNil {w : World} {t : Tr En Tl} {p : Option Addr} (h : IsTE w p t) : t.isNil = p.isNone := by
  cases t with
  | nil => rw [show p = none from h]; rfl
  | node l k v s r => obtain ⟨b, lp, rp, rfl, _⟩ := h; rfl

theorem nodeE {w : World} {b : Nat} {k : ByteArray} {v : En} {s : Tl} {lp rp : Option Addr} {c h : Int} {q : Tl} (hb : w.heap[b]? = some (.cells #[.string k, .string v.k, .int .i64 v.c, .int .i64 v.n, .string v.v, .bool v.d, .int .i64 s.n, .int .u64 s.a, .int .u64 s.b, .pointer lp, .pointer rp, .int .i64 c, .int .i64 h, .int .i64 q.n, .int .u64 q.a, .int .u64 q.b] 120 (0, 0))) :
    w.cell? ⟨b, 0, none⟩ = some (.string k) ∧ w.cell? ⟨b, 1, none⟩ = some (.string v.k) ∧ w.cell? ⟨b, 2, none⟩ = some (.int .i64 v.c) ∧ w.cell? ⟨b, 3, none⟩ = some (.int .i64 v.n) ∧ w.cell? ⟨b, 4, none⟩ = some (.string v.v) ∧ w.cell? ⟨b, 5, none⟩ = some (.bool v.d) ∧ w.cell? ⟨b, 6, none⟩ = some (.int .i64 s.n) ∧ w.cell? ⟨b, 7, none⟩ = some (.int .u64 s.a) ∧ w.cell? ⟨b, 8, none⟩ = some (.int .u64 s.b) ∧ w.cell? ⟨b, 9, none⟩ = some (.pointer lp) ∧ w.cell? ⟨b, 10, none⟩ = some (.pointer rp) ∧ w.cell? ⟨b, 11, none⟩ = some (.int .i64 c) ∧ w.cell? ⟨b, 12, none⟩ = some (.int .i64 h) ∧ w.cell? ⟨b, 13, none⟩ = some (.int .i64 q.n) ∧ w.cell? ⟨b, 14, none⟩ = some (.int .u64 q.a) ∧ w.cell? ⟨b, 15, none⟩ = some (.int .u64 q.b) := by
  simp [World.cell?, hb]

theorem IsTE.two {w : World} {t : Tr En Tl} {p : Option Addr} (h : IsTE w p t) : (p = none ∧ t = .nil) ∨ ∃ b, p = some ⟨b, 0, none⟩ ∧ t.isNil = false := by
  cases t with
  | nil => exact .inl ⟨h, rfl⟩
  | node l k v s r => obtain ⟨b, lp, rp, rfl, _⟩ := h; exact .inr ⟨b, rfl, rfl⟩

theorem sumAtE {w : World} {b : Nat} {t : Tr En Tl} (h : IsTE w (some ⟨b, 0, none⟩) t) : w.cell? ⟨b, 13, none⟩ = some (.int .i64 (t.sum tJoin tZero).n) ∧ w.cell? ⟨b, 14, none⟩ = some (.int .u64 (t.sum tJoin tZero).a) ∧ w.cell? ⟨b, 15, none⟩ = some (.int .u64 (t.sum tJoin tZero).b) := by
  cases t with
  | nil => cases (show some _ = none from h)
  | node l k v s r =>
    obtain ⟨b', lp, rp, e, hb, _⟩ := h
    injection e with e
    injection e with e _ _
    subst e
    simp [World.cell?, hb]

theorem nodePlE {w : World} {b : Nat} {k : ByteArray} {v : En} {s : Tl} {lp rp : Option Addr} {c h : Int} {q : Tl} (hb : w.heap[b]? = some (.cells #[.string k, .string v.k, .int .i64 v.c, .int .i64 v.n, .string v.v, .bool v.d, .int .i64 s.n, .int .u64 s.a, .int .u64 s.b, .pointer lp, .pointer rp, .int .i64 c, .int .i64 h, .int .i64 q.n, .int .u64 q.a, .int .u64 q.b] 120 (0, 0))) : w.cell? ⟨b, 9, none⟩ = some (.pointer lp) := by simp [World.cell?, hb]
theorem nodePrE {w : World} {b : Nat} {k : ByteArray} {v : En} {s : Tl} {lp rp : Option Addr} {c h : Int} {q : Tl} (hb : w.heap[b]? = some (.cells #[.string k, .string v.k, .int .i64 v.c, .int .i64 v.n, .string v.v, .bool v.d, .int .i64 s.n, .int .u64 s.a, .int .u64 s.b, .pointer lp, .pointer rp, .int .i64 c, .int .i64 h, .int .i64 q.n, .int .u64 q.a, .int .u64 q.b] 120 (0, 0))) : w.cell? ⟨b, 10, none⟩ = some (.pointer rp) := by simp [World.cell?, hb]

/-- A tree's own block: it holds its join jv and its root. -/
def TObjE (w : World) (tb : Nat) (jv : Value) (root : Option Addr) : Prop := w.heap[tb]? = some (.cells #[.int .i64 0, .int .u64 0, .int .u64 0, jv, .pointer root] 111 (0, 0))

theorem TObjE.onC {w w' : World} {tb n : Nat} {jv : Value} {root : Option Addr} {c : Option Nat} (h : TObjE w tb jv root) (hc : CntE c n w) (k : Keeps (OnC c) w w') : TObjE w' tb jv root := blk_keep h k (hc.apart h (by decide))

theorem tobjE {w : World} {tb : Nat} {jv : Value} {root : Option Addr} (h : TObjE w tb jv root) :
    w.cell? ⟨tb, 0, none⟩ = some (.int .i64 0) ∧ w.cell? ⟨tb, 1, none⟩ = some (.int .u64 0) ∧ w.cell? ⟨tb, 2, none⟩ = some (.int .u64 0) ∧ w.cell? ⟨tb, 3, none⟩ = some (jv) ∧ w.cell? ⟨tb, 4, none⟩ = some (.pointer root) ∧ w.frozen? ⟨tb, 4, none⟩ = false := by
  unfold TObjE at h
  simp [World.cell?, World.frozen?, h]

set_option maxHeartbeats 1600000 in
theorem rowsE {w : World} {p : Option Addr} {t : Tr En Tl} (h : IsTE w p t) :
    Calls Tryd.prog 51 #[.pointer p] w fun e w' => e = .returned (.int .i64 (t.cnt : Int)) ∧ w' = w := by
  cases t with
  | nil =>
    obtain rfl : p = none := h
    go_enter Tryd.func51, Tryd.ntmps51
    go_wp2
    go_ret
    exact ⟨rfl, rfl⟩
  | node l k v s r =>
    obtain ⟨b, lp, rp, rfl, hb, _, _⟩ := h
    have hn := nodeE hb
    obtain ⟨-, -, -, -, -, -, -, -, -, -, -, h, -, -, -, -⟩ := hn
    clear hb
    generalize ((Tr.node l k v s r).cnt : Int) = c at *
    go_enter Tryd.func51, Tryd.ntmps51
    go_wp2
    go_ret
    exact ⟨rfl, rfl⟩

set_option maxHeartbeats 1600000 in
theorem levelsE {w : World} {p : Option Addr} {t : Tr En Tl} (h : IsTE w p t) :
    Calls Tryd.prog 75 #[.pointer p] w fun e w' => e = .returned (.int .i64 (t.ht : Int)) ∧ w' = w := by
  cases t with
  | nil =>
    obtain rfl : p = none := h
    go_enter Tryd.func75, Tryd.ntmps75
    go_wp2
    go_ret
    exact ⟨rfl, rfl⟩
  | node l k v s r =>
    obtain ⟨b, lp, rp, rfl, hb, _, _⟩ := h
    have hn := nodeE hb
    obtain ⟨-, -, -, -, -, -, -, -, -, -, -, -, h, -, -, -⟩ := hn
    clear hb
    generalize ((Tr.node l k v s r).ht : Int) = c at *
    go_enter Tryd.func75, Tryd.ntmps75
    go_wp2
    go_ret
    exact ⟨rfl, rfl⟩

end Go.Proofs.YtlgcdcjhflihiaaDoor
namespace Go.Proofs.YtlgcdcjhflihiaaDoor
open Go.RowKit
set_option linter.unusedVariables false

theorem infoPNE : (Tryd.prog.info? 109).map (fun i => (i.zero, i.size, i.bytes)) = some (some (.pointer none), 1, 8) := by kernel_rfl

/-- The pointers of a way. -/
def ptrsE (l : List (Option Addr × Tr En Tl)) : List Value := l.map (fun x => .pointer x.1)

/-- What the loop of down keeps: pre has been passed; T' is what the way goes on from; at most g rounds are to come. -/
def DRelE (w : World) (k : ByteArray) (T : Tr En Tl) (g : Nat) (above at_ lo : Value) (wr : World) : Prop :=
  ∃ (pre : List (Option Addr × Tr En Tl)) (p : Option Addr) (T' : Tr En Tl) (L b cap : Nat), above = .slice (some ⟨b, 0, none⟩) pre.length cap ∧ at_ = .pointer p ∧ lo = .int .i64 (L : Int) ∧
    IsTE w p T' ∧ T'.ht ≤ g ∧ wr.ownsRow w.heap.size 109 1 (.slice (some ⟨b, 0, none⟩) pre.length cap) pre.length (ptrsE pre) ∧ Below w.heap.size w wr ∧ (∀ x ∈ pre, IsTE w x.1 x.2) ∧
    Tr.path k T = pre.map (·.2) ++ Tr.path k T' ∧ Tr.found k T = Tr.found k T' ∧ Tr.lower k T = L + Tr.lower k T' ∧ pre.length + T'.ht ≤ T.ht ∧ L + T'.cnt ≤ T.cnt

theorem DRelE.mk0 {w w0 : World} {k : ByteArray} {T : Tr En Tl} {p : Option Addr} {cap b : Nat} (hT : IsTE w p T) (ho : w0.ownsRow w.heap.size 109 1 (.slice (some ⟨b, 0, none⟩) 0 cap) 0 []) (hb : Below w.heap.size w w0) :
    DRelE w k T T.ht (.slice (some ⟨b, 0, none⟩) 0 cap) (.pointer p) (.int .i64 0) w0 :=
  ⟨[], p, T, 0, b, cap, rfl, rfl, rfl, hT, Nat.le_refl _, ho, hb, (fun x hx => by cases hx), rfl, rfl, by omega, by simp, by omega⟩

/-- One pointer more. -/
theorem down_rowE {w wr w1 : World} {u : Value} {pre : List (Option Addr × Tr En Tl)} {b b1 cap1 : Nat} {o : Obj} {T' : Tr En Tl} (hb : Below w.heap.size w wr)
    (hown : wr.ownsRow w.heap.size 109 1 u pre.length (ptrsE pre)) (hgrow : (wr.alloc o).grownBy w1 u.ownBlock)
    (hown1 : w1.ownsRow w.heap.size 109 1 (.slice (some ⟨b1, 0, none⟩) (pre.length + 1) cap1) (pre.length + 1) (ptrsE pre ++ [.pointer (some ⟨b, 0, none⟩)])) :
    w1.ownsRow w.heap.size 109 1 (.slice (some ⟨b1, 0, none⟩) (pre ++ [((some ⟨b, 0, none⟩ : Option Addr), T')]).length cap1) (pre ++ [((some ⟨b, 0, none⟩ : Option Addr), T')]).length (ptrsE (pre ++ [((some ⟨b, 0, none⟩ : Option Addr), T')])) ∧ Below w.heap.size w w1 := by
  constructor
  · simpa [ptrsE] using hown1
  · exact (hb.alloc hb.size o).grown hgrow (by have := hb.size; simp; omega) (fun j hj => (hown.lt j hj).1)

/-- What down hands back. -/
def DownsE (w : World) (k : ByteArray) (T : Tr En Tl) (e : Ending) (w' : World) : Prop :=
  ∃ (pre : List (Option Addr × Tr En Tl)) (p : Option Addr) (b cap : Nat), e = .returned (.tuple #[.slice (some ⟨b, 0, none⟩) pre.length cap, .pointer p, .int .i64 (Tr.lower k T : Int)]) ∧
    IsTE w p (Tr.found k T) ∧ w'.ownsRow w.heap.size 109 1 (.slice (some ⟨b, 0, none⟩) pre.length cap) pre.length (ptrsE pre) ∧ Below w.heap.size w w' ∧ (∀ x ∈ pre, IsTE w x.1 x.2) ∧ pre.map (·.2) = Tr.path k T

set_option maxHeartbeats 3200000 in
set_option maxRecDepth 100000 in
theorem downE (k : ByteArray) {w : World} {tb : Nat} {jv : Value} {p0 : Option Addr} {T : Tr En Tl} (ht : TObjE w tb jv p0) (hT : IsTE w p0 T) (hh : T.ht ≤ 1000000) (hcn : T.cnt ≤ 4611686018427387904) :
    Calls Tryd.prog 54 #[.pointer (some ⟨tb, 0, none⟩), .string k] w (DownsE w k T) := by
  obtain ⟨i0, hi0, hz0, hz1, hz2⟩ := info_parts infoPNE
  have HI := aside hi0
  have HT := aside hT
  have t0 := tobjE ht
  obtain ⟨-, -, -, -, r0, -⟩ := t0
  have CL := aside (levelsE hT)
  obtain ⟨h, hh1⟩ : ∃ h : Int, (T.ht : Int) = h := ⟨_, rfl⟩
  rw [hh1] at CL
  have HH := aside hh1
  have HCN := aside hcn
  have HHT := aside hh
  have TL := aside (lt_of_blk ht)
  clear ht hT hh1 hcn hh
  go_enter Tryd.func54, Tryd.ntmps54
  go_wp2
  go_step3
  go_wp2_with fail
  refine CL.out.mono ?_
  rintro e w1 ⟨rfl, rfl⟩
  go_wp2_with (at_make; refine wpList_make_own _ rfl _ _ 114 rfl w1.heap.size 109 i0 (.pointer none) 1 Tryd.underlying114 hi0 hz0 hz1 _ _ _ T.ht rfl rfl HH.out.symm (by rw [hz2]; have := HHT.out; omega) (by have := HHT.out; unfold maxLen; omega) (Nat.le_refl _) ?_)
  intro w0 hown0 hgrow0
  have hb0 : Below w1.heap.size w1 w0 := (Below.refl _ w1).grown hgrow0 (Nat.le_refl _) (fun k e => by cases e)
  have R0 := aside (DRelE.mk0 (k := k) HT.out hown0 hb0)
  have r0' := (hb0.cell (p := ⟨tb, 4, none⟩) TL.out).trans r0
  clear hgrow0 hown0 hb0 r0
  go_wp2
  go_step3
  go_wp2
  clear r0'
  go_loopg [4, 5, 6] T.ht (fun g a at_ lo wr => DRelE w1 k T g a at_ lo wr)
  case atStart => exact R0.out
  case round =>
    obtain ⟨pre, p, T', L, b0, cap, rfl, rfl, rfl, hT', hg, ho, hb, hpre, e1, e2, e3, e4, e5⟩ := hrel
    have HO := aside ho
    have HB := aside hb
    have HP := aside hpre
    have E1 := aside e1
    have E2 := aside e2
    have E3 := aside e3
    have E4 := aside e4
    have E5 := aside e5
    have HG := aside hg
    clear ho hb hpre e1 e2 e3 e4 e5 hg R0
    cases T' with
    | nil =>
      obtain rfl : p = none := hT'
      have he : Tr.lower k T = L := by have := E3.out; simpa [Tr.lower] using this
      have HE := aside he
      clear he
      go_wp2
      go_ret3
      refine ⟨pre, none, b0, cap, by rw [HE.out]; rfl, by rw [E2.out]; rfl, HO.out, HB.out, HP.out, by rw [E1.out]; simp [Tr.path]⟩
    | node l k' v s r =>
      have HT' := aside hT'
      obtain ⟨b, lp, rp, rfl, hbk, hl, hr⟩ := hT'
      have HL := aside hl
      have HR := aside hr
      have HK := aside hbk
      have hn := nodeE (blk_on hbk HB.out)
      obtain ⟨c0, -, -, -, -, -, -, -, -, c1, c2, -, -, -, -, -⟩ := hn
      clear hbk hl hr
      have CW := aside (fun (W : World) (h : Stay 120 w1 W) => rowsE (HL.out.on h))
      obtain ⟨lc, hlc⟩ : ∃ x : Int, (l.cnt : Int) = x := ⟨_, rfl⟩
      rw [hlc] at CW
      have HLC := aside hlc
      clear hlc
      cases q1 : Op.bytesLess k.toList k'.toList
      · cases q2 : Op.bytesLess k'.toList k.toList
        · have Q1 := aside (show kLt k k' = false from q1)
          have Q2 := aside (show kLt k' k = false from q2)
          have hgt : binOp .gtr 9 (.string k) (.string k') = pure (.bool false) := str_gtr (kLt_same Q1.out Q2.out)
          have hsum : IntKind.i64.wrap ((L : Int) + lc) = ((Tr.lower k T : Nat) : Int) := by
            have h1 := E3.out
            have h2 := HLC.out
            have h3 := HCN.out
            have h4 := E5.out
            simp only [Tr.lower, Q1.out, Q2.out, Bool.false_eq_true, if_false] at h1
            simp only [Tr.cnt] at h4
            rw [IntKind.wrap_i64]
            omega
          have HS := aside hsum
          clear hsum
          obtain ⟨lo, hlo⟩ : ∃ x : Int, IntKind.i64.wrap ((L : Int) + lc) = x := ⟨_, rfl⟩
          have HS2 := aside (hlo.symm.trans HS.out)
          go_wp2_with fail
          refine (CW.out _ (fun _ _ e => blk_on e HB.out)).mono ?_
          rintro e w2 ⟨rfl, rfl⟩
          go_wp2
          go_ret3
          refine ⟨pre, some ⟨b, 0, none⟩, b0, cap, ?_, ?_, HO.out, HB.out, HP.out, ?_⟩
          · rw [← HS2.out]; rfl
          · rw [E2.out]; simp only [Tr.found, Q1.out, Q2.out, Bool.false_eq_true, if_false]; exact HT'.out
          · rw [E1.out]; simp [Tr.path, Q1.out, Q2.out]
        · have Q1 := aside (show kLt k k' = false from q1)
          have Q2 := aside (show kLt k' k = true from q2)
          have hgt : binOp .gtr 9 (.string k) (.string k') = pure (.bool true) := str_gtr (kLt_over Q2.out)
          have hlen : pre.length ≤ 1000000 := by have := E4.out; have := HHT.out; omega
          have HLEN := aside hlen
          clear hlen
          go_wp2_with (at_builtin; refine wpList_append_lies _ rfl _ _ _ rfl w1.heap.size 109 i0 (.pointer none) 1 8 Tryd.underlying114 hi0 hz0 hz1 hz2 rfl (by decide) _ _ _ (by rfl) (HO.out.alloc _) ⟨wr.heap.size, 0, none⟩ 1 1 [.pointer (some ⟨b, 0, none⟩)] (by rfl) (by rfl) (World.news_of_block (cs := #[.pointer (some ⟨b, 0, none⟩)]) (t := 109) (fr := (0, 0)) (heap_alloc_new wr _)) (by simp [Value.oneCell']) (by first | omega | skip) (by have := HLEN.out; unfold maxLen; omega) (by have := HLEN.out; omega) (by have := HB.out.size; simp; omega) (wr.heap.size + 1) (by simp) ?_; intro b1 cp w1 hown1 hgrow hat hlt1; refine Hid.out ?_)
          refine aside ?_
          obtain ⟨O1, B1⟩ := down_rowE (T' := Tr.node l k' v s r) HB.out HO.out hgrow hown1
          have HO1 := aside O1
          have HB1 := aside B1
          have hn := nodeE (blk_on HK.out B1)
          obtain ⟨d0, -, -, -, -, -, -, -, -, d1, d2, -, -, -, -, -⟩ := hn
          clear O1 B1 hgrow hown1 hat hlt1 c0 c1 c2
          go_wp2_with fail
          refine (CW.out _ (fun _ _ e => blk_on e HB1.out)).mono ?_
          rintro e w2 ⟨rfl, rfl⟩
          have hs1 : IntKind.i64.wrap (lc + 1) = lc + 1 := by
            have h2 := HLC.out
            have h3 := HCN.out
            have h4 := E5.out
            simp only [Tr.cnt] at h4
            rw [IntKind.wrap_i64]
            omega
          have hs2 : IntKind.i64.wrap ((L : Int) + (lc + 1)) = ((L + (l.cnt + 1) : Nat) : Int) := by
            have h2 := HLC.out
            have h3 := HCN.out
            have h4 := E5.out
            simp only [Tr.cnt] at h4
            rw [IntKind.wrap_i64]
            omega
          obtain ⟨lo, hlo⟩ : ∃ x : Int, IntKind.i64.wrap ((L : Int) + (lc + 1)) = x := ⟨_, rfl⟩
          have HS2 := aside (hlo.symm.trans hs2)
          clear hs2
          go_wp2
          go_roundg r.ht
          case measure => have := HG.out; simp only [Tr.ht] at this; omega
          case rel =>
            refine ⟨pre ++ [(some ⟨b, 0, none⟩, Tr.node l k' v s r)], rp, r, L + (l.cnt + 1), b1, cp, by simp, rfl, by rw [← HS2.out], HR.out, Nat.le_refl _, HO1.out, HB1.out, ?_, ?_, ?_, ?_, ?_, ?_⟩
            · intro x hx
              rcases List.mem_append.1 hx with hx | hx
              · exact HP.out x hx
              · rw [List.mem_singleton.1 hx]; exact HT'.out
            · rw [E1.out]; simp [Tr.path, Q1.out, Q2.out]
            · rw [E2.out]; simp [Tr.found, Q1.out, Q2.out]
            · rw [E3.out]; simp only [Tr.lower, Q1.out, Q2.out, Bool.false_eq_true, if_false, if_true]; omega
            · have := E4.out; simp only [Tr.ht] at this; simp; omega
            · have := E5.out; simp only [Tr.cnt] at this; omega
      · have Q1 := aside (show kLt k k' = true from q1)
        have hlen : pre.length ≤ 1000000 := by have := E4.out; have := HHT.out; omega
        have HLEN := aside hlen
        clear hlen
        go_wp2_with (at_builtin; refine wpList_append_lies _ rfl _ _ _ rfl w1.heap.size 109 i0 (.pointer none) 1 8 Tryd.underlying114 hi0 hz0 hz1 hz2 rfl (by decide) _ _ _ (by rfl) (HO.out.alloc _) ⟨wr.heap.size, 0, none⟩ 1 1 [.pointer (some ⟨b, 0, none⟩)] (by rfl) (by rfl) (World.news_of_block (cs := #[.pointer (some ⟨b, 0, none⟩)]) (t := 109) (fr := (0, 0)) (heap_alloc_new wr _)) (by simp [Value.oneCell']) (by first | omega | skip) (by have := HLEN.out; unfold maxLen; omega) (by have := HLEN.out; omega) (by have := HB.out.size; simp; omega) (wr.heap.size + 1) (by simp) ?_; intro b1 cp w1 hown1 hgrow hat hlt1; refine Hid.out ?_)
        refine aside ?_
        obtain ⟨O1, B1⟩ := down_rowE (T' := Tr.node l k' v s r) HB.out HO.out hgrow hown1
        have HO1 := aside O1
        have HB1 := aside B1
        have hn := nodeE (blk_on HK.out B1)
        obtain ⟨d0, -, -, -, -, -, -, -, -, d1, d2, -, -, -, -, -⟩ := hn
        clear O1 B1 hgrow hown1 hat hlt1 c0 c1 c2
        go_wp2
        go_roundg l.ht
        case measure => have := HG.out; simp only [Tr.ht] at this; omega
        case rel =>
          refine ⟨pre ++ [(some ⟨b, 0, none⟩, Tr.node l k' v s r)], lp, l, L, b1, cp, by simp, rfl, rfl, HL.out, Nat.le_refl _, HO1.out, HB1.out, ?_, ?_, ?_, ?_, ?_, ?_⟩
          · intro x hx
            rcases List.mem_append.1 hx with hx | hx
            · exact HP.out x hx
            · rw [List.mem_singleton.1 hx]; exact HT'.out
          · rw [E1.out]; simp [Tr.path, Q1.out]
          · rw [E2.out]; simp [Tr.found, Q1.out]
          · rw [E3.out]; simp [Tr.lower, Q1.out]
          · have := E4.out; simp only [Tr.ht] at this; simp; omega
          · have := E5.out; simp only [Tr.cnt] at this; omega

end Go.Proofs.YtlgcdcjhflihiaaDoor
namespace Go.Proofs.YtlgcdcjhflihiaaDoor
open Go.RowKit
set_option linter.unusedVariables false
namespace Tr
variable {β α : Type}
def val (z : β) : Tr β α → β
  | nil => z
  | node _ _ v _ _ => v

def key : Tr β α → ByteArray
  | nil => ⟨#[]⟩
  | node _ k _ _ _ => k

/-- The tree whose root is row i. -/
def nth : Tr β α → Int → Tr β α
  | nil, _ => nil
  | node l k v s r, i => if i < (l.cnt : Int) then nth l i else if (l.cnt : Int) < i then nth r (i - ((l.cnt : Int) + 1)) else node l k v s r

/-- The fold of the rows from i on below j. -/
def fld (J : α → α → α) (e : α) : Tr β α → Nat → Nat → α
  | nil, _, _ => e
  | node l k v s r, i, j =>
    if i = 0 ∧ j = (node l k v s r).cnt then (node l k v s r).sum J e else
    if j ≤ l.cnt then fld J e l i j else
    if l.cnt < i then fld J e r (i - l.cnt - 1) (j - l.cnt - 1) else
    if l.cnt + 1 < j then J (if i < l.cnt then J (fld J e l i l.cnt) s else s) (fld J e r 0 (j - l.cnt - 1)) else (if i < l.cnt then J (fld J e l i l.cnt) s else s)

/-- How often it joins. -/
def fldC : Tr β α → Nat → Nat → Nat
  | nil, _, _ => 0
  | node l k v s r, i, j =>
    if i = 0 ∧ j = (node l k v s r).cnt then 0 else
    if j ≤ l.cnt then fldC l i j else
    if l.cnt < i then fldC r (i - l.cnt - 1) (j - l.cnt - 1) else
    (if i < l.cnt then fldC l i l.cnt + 1 else 0) + (if l.cnt + 1 < j then fldC r 0 (j - l.cnt - 1) + 1 else 0)

theorem fldC_full (t : Tr β α) : fldC t 0 t.cnt = 0 := by
  cases t with
  | nil => rfl
  | node l k v s r => simp [fldC]

theorem fldC_tail' : ∀ (t : Tr β α) (i j : Nat), j = t.cnt → fldC t i j ≤ 2 * t.ht
  | nil, i, j, _ => by simp [fldC]
  | node l k v s r, i, j, hj => by
    have h1 := fldC_tail' l i l.cnt rfl
    have h2 := fldC_tail' r (i - l.cnt - 1) (j - l.cnt - 1) (by simp only [cnt] at hj; omega)
    have h3 : fldC r 0 (j - l.cnt - 1) = 0 := by
      rw [show j - l.cnt - 1 = r.cnt from by simp only [cnt] at hj; omega]; exact fldC_full r
    simp only [fldC, ht]
    split
    · omega
    · split
      · simp only [cnt] at hj; omega
      · split
        · omega
        · rw [h3]; split <;> split <;> omega

theorem fldC_tail (t : Tr β α) (i : Nat) : fldC t i t.cnt ≤ 2 * t.ht := fldC_tail' t i _ rfl

theorem fldC_head : ∀ (t : Tr β α) (j : Nat), fldC t 0 j ≤ 2 * t.ht
  | nil, j => by simp [fldC]
  | node l k v s r, j => by
    have h1 := fldC_head l j
    have h2 := fldC_head r (j - l.cnt - 1)
    have h3 := fldC_full l
    simp only [fldC, ht]
    split
    · omega
    · split
      · omega
      · split
        · omega
        · rw [h3]; split <;> split <;> omega

theorem fldC_le : ∀ (t : Tr β α) (i j : Nat), fldC t i j ≤ 4 * t.ht
  | nil, i, j => by simp [fldC]
  | node l k v s r, i, j => by
    have h1 := fldC_le l i j
    have h2 := fldC_le r (i - l.cnt - 1) (j - l.cnt - 1)
    have h3 := fldC_tail l i
    have h4 := fldC_head r (j - l.cnt - 1)
    simp only [fldC, ht]
    split
    · omega
    · split
      · omega
      · split
        · omega
        · split <;> split <;> omega

theorem fld_le {z : α → Nat} {J : α → α → α} (hJ : ∀ a b, z (J a b) ≤ z a + z b) (e : α) : ∀ (t : Tr β α) (i j : Nat), i < j → j ≤ t.cnt → z (fld J e t i j) ≤ t.wt z
  | nil, i, j, h1, h2 => by simp [cnt] at h2; omega
  | node l k v s r, i, j, h1, h2 => by
    have hs := sum_le hJ e (node l k v s r) rfl
    have a1 := fld_le hJ e l i j h1
    have a2 : l.cnt < i → z (fld J e r (i - l.cnt - 1) (j - l.cnt - 1)) ≤ r.wt z := fun h => fld_le hJ e r _ _ (by omega) (by simp only [cnt] at h2; omega)
    have a3 : i < l.cnt → z (fld J e l i l.cnt) ≤ l.wt z := fun h => fld_le hJ e l _ _ h (Nat.le_refl _)
    have a4 : l.cnt + 1 < j → z (fld J e r 0 (j - l.cnt - 1)) ≤ r.wt z := fun h => fld_le hJ e r _ _ (by omega) (by simp only [cnt] at h2; omega)
    have a5 : i < l.cnt → z (J (fld J e l i l.cnt) s) ≤ l.wt z + z s := fun h => by have := hJ (fld J e l i l.cnt) s; have := a3 h; omega
    simp only [fld]
    split
    · exact hs
    · simp only [wt]
      split
      · have := a1 (by assumption); omega
      · split
        · have := a2 (by assumption); omega
        · split
          · rename_i g
            have b1 := a4 g
            split
            · rename_i g2
              have := hJ (J (fld J e l i l.cnt) s) (fld J e r 0 (j - l.cnt - 1))
              have := a5 g2
              omega
            · have := hJ s (fld J e r 0 (j - l.cnt - 1))
              omega
          · split
            · rename_i g2
              have := a5 g2
              omega
            · omega

/-- Fold, as it is asked. -/
def fol (J : α → α → α) (e : α) (t : Tr β α) (i j : Int) : α := if max i 0 < min j (t.cnt : Int) then fld J e t (max i 0).toNat (min j (t.cnt : Int)).toNat else e

def folC (t : Tr β α) (i j : Int) : Nat := if max i 0 < min j (t.cnt : Int) then fldC t (max i 0).toNat (min j (t.cnt : Int)).toNat else 0

theorem folC_le (t : Tr β α) (i j : Int) : folC t i j ≤ 4 * t.ht := by
  unfold folC
  split
  · exact fldC_le _ _ _
  · omega

theorem fol_eq (J : α → α → α) (e : α) (t : Tr β α) (i j : Int) {i' j' : Int} (hi : max i 0 = i') (hj : min j (t.cnt : Int) = j') : fol J e t i j = if i' < j' then fld J e t i'.toNat j'.toNat else e := by subst hi hj; rfl

theorem folC_eq (t : Tr β α) (i j : Int) {i' j' : Int} (hi : max i 0 = i') (hj : min j (t.cnt : Int) = j') : folC t i j = if i' < j' then fldC t i'.toNat j'.toNat else 0 := by subst hi hj; rfl

end Tr
end Go.Proofs.YtlgcdcjhflihiaaDoor
namespace Go.Proofs.YtlgcdcjhflihiaaDoor
open Go.RowKit
set_option linter.unusedVariables false

set_option maxHeartbeats 1600000 in
theorem lenE {w : World} {tb : Nat} {jv : Value} {p0 : Option Addr} {T : Tr En Tl} (ht : TObjE w tb jv p0) (hT : IsTE w p0 T) :
    Calls Tryd.prog 32 #[.pointer (some ⟨tb, 0, none⟩)] w fun e w' => e = .returned (.int .i64 (T.cnt : Int)) ∧ w' = w := by
  obtain ⟨-, -, -, -, r0, -⟩ := tobjE ht
  have C := aside (rowsE hT)
  generalize (T.cnt : Int) = n at *
  clear ht hT
  go_enter Tryd.func32, Tryd.ntmps32
  go_wp2_with fail
  refine C.out.mono ?_
  rintro e w1 ⟨rfl, rfl⟩
  go_wp2
  go_ret
  exact ⟨rfl, rfl⟩

set_option maxHeartbeats 1600000 in
set_option maxRecDepth 100000 in
theorem rankE (k : ByteArray) {w : World} {tb : Nat} {jv : Value} {p0 : Option Addr} {T : Tr En Tl} (ht : TObjE w tb jv p0) (hT : IsTE w p0 T) (hh : T.ht ≤ 1000000) (hcn : T.cnt ≤ 4611686018427387904) :
    Calls Tryd.prog 57 #[.pointer (some ⟨tb, 0, none⟩), .string k] w fun e w' => e = .returned (.int .i64 (Tr.lower k T : Int)) ∧ Below w.heap.size w w' := by
  have C := aside (downE k ht hT hh hcn)
  clear ht hT hh hcn
  go_enter Tryd.func57, Tryd.ntmps57
  go_wp2_with fail
  refine C.out.mono ?_
  rintro e w1 ⟨pre, p, b, cap, rfl, h1, h2, h3, h4, h5⟩
  have H3 := aside h3
  clear h1 h2 h3 h4 h5 C
  go_wp2
  go_ret
  exact ⟨rfl, H3.out⟩

set_option maxHeartbeats 1600000 in
set_option maxRecDepth 100000 in
theorem getE (k : ByteArray) {w : World} {tb : Nat} {jv : Value} {p0 : Option Addr} {T : Tr En Tl} (ht : TObjE w tb jv p0) (hT : IsTE w p0 T) (hh : T.ht ≤ 1000000) (hcn : T.cnt ≤ 4611686018427387904) :
    Calls Tryd.prog 36 #[.pointer (some ⟨tb, 0, none⟩), .string k] w fun e w' => e = .returned (.tuple #[.agg #[.string ((Tr.found k T).val eNone).k, .int .i64 ((Tr.found k T).val eNone).c, .int .i64 ((Tr.found k T).val eNone).n, .string ((Tr.found k T).val eNone).v, .bool ((Tr.found k T).val eNone).d], .bool (!(Tr.found k T).isNil)]) ∧ Below w.heap.size w w' := by
  have b0 := bnew w (.cells #[.string ⟨#[]⟩, .int .i64 0, .int .i64 0, .string ⟨#[]⟩, .bool false] 39)
  have C := aside (downE k (blk_on ht b0) (hT.on ((Stay.refl _ _).alloc _)) hh hcn)
  have B0 := aside b0
  have G0 := aside (heap_alloc_new w (.cells #[.string ⟨#[]⟩, .int .i64 0, .int .i64 0, .string ⟨#[]⟩, .bool false] 39))
  obtain ⟨F, hF⟩ : ∃ F, Tr.found k T = F := ⟨_, rfl⟩
  have HF := aside hF
  rw [hF]
  clear ht hT hh hcn hF b0
  go_enter Tryd.func36, Tryd.ntmps36
  go_wp2_with fail
  refine C.out.mono ?_
  rintro e w1 ⟨pre, p, b, cap, rfl, h1, h2, h3, h4, h5⟩
  have H3 := aside (bthen B0.out h3)
  rw [HF.out] at h1
  have G1 := aside (blk_on G0.out h3)
  have H4 := aside h3
  clear h2 h3 h4 h5 C HF G0
  have hB := aside H3.out
  cases F with
  | nil =>
    obtain rfl : p = none := h1
    obtain ⟨s0, s1, s2, s3, s4, z0, z1, z2, z3, z4⟩ := penta (blk_on G1.out (bnew w1 (.cells #[.string ⟨#[]⟩, .int .i64 0, .int .i64 0, .string ⟨#[]⟩, .bool false] 39)))
    go_wp2
    refine bodyPost_ret (v := .tuple #[.agg #[.string ⟨#[]⟩, .int .i64 0, .int .i64 0, .string ⟨#[]⟩, .bool false], .bool false]) (by simp [results, Tryd.results36, go_sem, s0, s1, s2, s3, s4]) rfl ⟨rfl, ?_⟩
    exact (((((bthen hB.out (bnew w1 _)).setCell (by dsimp only; omega) _).setCell (by dsimp only; omega) _).setCell (by dsimp only; omega) _).setCell (by dsimp only; omega) _).setCell (by dsimp only; omega) _
  | node l k' v s r =>
    obtain ⟨b', lp, rp, rfl, hb, _, _⟩ := h1
    have hn := nodeE (blk_on hb H4.out)
    obtain ⟨-, c0, c1, c2, c3, c4, -, -, -, -, -, -, -, -, -, -⟩ := hn
    obtain ⟨s0, s1, s2, s3, s4, z0, z1, z2, z3, z4⟩ := penta G1.out
    clear hb
    go_wp2
    refine bodyPost_ret (v := .tuple #[.agg #[.string v.k, .int .i64 v.c, .int .i64 v.n, .string v.v, .bool v.d], .bool true]) (by simp [results, Tryd.results36, go_sem, s0, s1, s2, s3, s4]) rfl ⟨rfl, ?_⟩
    exact (((((hB.out).setCell (by dsimp only; omega) _).setCell (by dsimp only; omega) _).setCell (by dsimp only; omega) _).setCell (by dsimp only; omega) _).setCell (by dsimp only; omega) _

set_option maxHeartbeats 1600000 in
set_option maxRecDepth 100000 in
theorem newE (fn : Fn) (first cap : Array Value) (w : World) :
    Calls Tryd.prog 65 #[.agg #[.int .i64 0, .int .u64 0, .int .u64 0], .func fn first cap] w fun e w' => ∃ tb, e = .returned (.pointer (some ⟨tb, 0, none⟩)) ∧ TObjE w' tb (.func fn first cap) none ∧ Below w.heap.size w w' ∧ w.heap.size ≤ tb := by
  have H1 := aside (heap_alloc_new (w.alloc (.cells #[.int .i64 0, .int .u64 0, .int .u64 0] 64)) (.cells #[.int .i64 0, .int .u64 0, .int .u64 0, .func fn first cap, .pointer none] 111))
  go_enter Tryd.func65, Tryd.ntmps65
  go_wp2
  go_ret
  refine ⟨_, rfl, by have := H1.out; simp only [World.size_alloc] at this; exact this, (bnew w _).alloc (by simp) _, by omega⟩

end Go.Proofs.YtlgcdcjhflihiaaDoor

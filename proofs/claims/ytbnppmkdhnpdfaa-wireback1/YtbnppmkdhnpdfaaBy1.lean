/-
  Bytes that a call owns: what they are as text, and small laws on rows of bytes that the walks of this seat share.
  Memory that a call has made: which blocks a step may turn (Keeps), a writer in its block (IsW), and what an append to it leaves.
  Plain mathematics: the order of keys, trees of rows, what Put makes of them.
  Memory of trees: blocks of one type that stay, a counter of joins, summaries.
  Small facts on blocks of two cells (sums), on frames, and entries as plain data.
  Versions: which may be, how they compare, which is the next; the code's calls and the document's own, each as a plain function.
  Entries: which may be, which is newer, the better of two; the next version; the code's calls and the document's own.
  Blocks and cells that stay; an entry's five cells; Check by its number.
  The code's reader in its block (IsR): NewReader, Err, At, Left, Done, Fail, by contracts.
  The document's own reader in its block (IsRR): Err, At, Left, Done, Fail, by contracts.
  Plain mathematics of numbers as bytes: how a number is laid down (enc), how the number that a row of bytes begins with is read (dec), and that each undoes the other.
  firstNum: it returns the number that the text begins with, its length and the error, as Nm.first says; the world is as it was.
  number and Num of the document's own reader: as Nm.first says; they read, and turn nothing but the reader.
  Num of the code's reader: broken, it answers 0 and stays; else it answers what the bytes at its place say (Nm.first), moves on by as many, and keeps the error.
-/
import Derived.Test.YtbnppmkdhnpdfaaProg
import Derived.WalkKit
import Derived.WalkSpells
import Derived.WalkLawsBesides
import Derived.OwnWalk
import Derived.Lib.UnsafeStr
import Derived.Laws.IdiomStrings
import Derived.Deep.AppendLies
import Derived.KernelRfl
import Derived.Below
import Derived.Laws.Rows
import Derived.Deep.QuietTactic
import Derived.BigQuiet
import Derived.WalkMore
namespace Go.Proofs.Ytbnppmkdhnpdfaa
open Go.RowKit
theorem info8 : (Try.prog.info? 5).map (fun i => (i.zero, i.size, i.bytes)) = some (some (.int .u8 0), 1, 1) := by kernel_rfl
/-- 'string(b)' of a row that the call owns. -/
theorem conv_own (w : World) (B : Nat) (v : Value) (l : List UInt8) (hown : w.ownsRow B 5 1 v l.length (Lib.byteCells l)) :
    (convert 30 9 v).run Try.prog w = .ok (.string ⟨l.toArray⟩) w := by
  rcases hown.2 with ⟨rfl, h0⟩ | ⟨g, cap, cur, rfl, -, -, -, -, -, -⟩
  · have hl : l = [] := List.length_eq_zero_iff.1 h0
    subst hl
    rw [run_convert_bytes_string w 30 9 5 none 0 0 Try.underlying30 Try.underlying5 Try.underlying9]
    rfl
  · exact run_convert_bytes_back (P := Try.prog) w 30 9 5 ⟨g, 0, none⟩ cap l Try.underlying30 Try.underlying5 Try.underlying9 (fun j hj => hown.cells (g := g) rfl j _ (by simp [Lib.byteCells, hj]))
/-- A fact put aside: the walk does not look behind the name. -/
theorem aside {p : Prop} (h : p) : Hid p := h
theorem idx_str' (s : ByteArray) (k : Nat) (hk : k < s.size) (i : Int) (h : i = (k : Int)) (w : World) :
    (Instr.index 9 (.string s) (.int .i64 i)).run Try.prog w = .ok (.int .u8 (s[k].toNat : Int)) w := by
  subst h
  rw [run_index_string w 9 _ .i64 _ Try.underlying9, dif_pos ⟨by omega, by omega⟩]
  simp only [Int.toNat_natCast]
theorem drop_one (s : ByteArray) (k : Nat) (h : k < s.size) : s.data.toList.drop k = s[k] :: s.data.toList.drop (k + 1) := by
  rw [List.drop_eq_getElem_cons (show k < s.data.toList.length from by simpa using h)]; rfl
end Go.Proofs.Ytbnppmkdhnpdfaa
namespace Go.Proofs.Ytbnppmkdhnpdfaa
open Go.RowKit
/-- Of the blocks that were there only those in S may have turned; streams as they were; no block has gone. -/
structure Keeps (S : Nat → Prop) (w w' : World) : Prop where
  os : w'.os = w.os
  tape : w'.tape = w.tape
  output : w'.output = w.output
  size : w.heap.size ≤ w'.heap.size
  block : ∀ k, k < w.heap.size → ¬ S k → w'.heap[k]? = w.heap[k]?
theorem Keeps.refl (S : Nat → Prop) (w : World) : Keeps S w w := ⟨rfl, rfl, rfl, Nat.le_refl _, fun _ _ _ => rfl⟩
theorem Keeps.trans {S : Nat → Prop} {a b c : World} (h : Keeps S a b) (k : Keeps S b c) : Keeps S a c :=
  ⟨k.os.trans h.os, k.tape.trans h.tape, k.output.trans h.output, Nat.le_trans h.size k.size, fun i hi hs => (k.block i (Nat.lt_of_lt_of_le hi h.size) hs).trans (h.block i hi hs)⟩
theorem Keeps.drewN {S : Nat → Prop} {a w : World} (h : Keeps S a w) (n : Nat) : Keeps S a (w.drewN n) := ⟨h.os, h.tape, h.output, h.size, h.block⟩
theorem Keeps.alloc {S : Nat → Prop} {a w : World} (h : Keeps S a w) (o : Obj) : Keeps S a (w.alloc o) :=
  h.trans ⟨rfl, rfl, rfl, by simp, fun k hk _ => Below.heap_alloc _ _ _ hk⟩
theorem Keeps.setCell {S : Nat → Prop} {a w : World} (h : Keeps S a w) {p : Addr} (hp : p.block < a.heap.size → S p.block) (u : Value) : Keeps S a (w.setCell p u) :=
  ⟨h.os, h.tape, h.output, Nat.le_trans h.size (by simp [World.setCell]), fun k hk hs => by
    have hne : k ≠ p.block := fun e => by subst e; exact hs (hp hk)
    rw [Below.heap_setCell _ _ _ _ hne]
    exact h.block k hk hs⟩
theorem Keeps.grown {S : Nat → Prop} {a w w' : World} {row : Option Nat} (h : Keeps S a w) (hg : w.grownBy w' row) (hr : ∀ k, row = some k → k < a.heap.size → S k) : Keeps S a w' :=
  ⟨hg.os.trans h.os, hg.tape.trans h.tape, hg.output.trans h.output, Nat.le_trans h.size hg.size, fun k hk hs => (hg.block k (Nat.lt_of_lt_of_le hk h.size) (fun e => hs (hr k e.symm hk))).trans (h.block k hk hs)⟩
theorem Keeps.below {S : Nat → Prop} {w w' : World} (h : Keeps S w w') {B : Nat} (hB : B ≤ w.heap.size) (hS : ∀ k, k < B → ¬ S k) : Below B w w' :=
  ⟨h.os, h.tape, h.output, h.size, fun k hk => h.block k (Nat.lt_of_lt_of_le hk hB) (hS k hk)⟩
theorem Keeps.of_below {w w' : World} (h : Below w.heap.size w w') (S : Nat → Prop) : Keeps S w w' :=
  ⟨h.os, h.tape, h.output, h.size, fun k hk _ => h.block k hk⟩
theorem ownsRow_keep {S : Nat → Prop} {w w' : World} {base : Nat} {e : TypeId} {size : Nat} {v : Value} {n : Nat} {xs : List Value} (h : w.ownsRow base e size v n xs) (k : Keeps S w w') (hv : ∀ j, v.ownBlock = some j → ¬ S j) : w'.ownsRow base e size v n xs := by
  refine ⟨h.1, ?_⟩
  rcases h.2 with hn | ⟨g, cap, cur, rfl, hb, hg, r⟩
  · exact .inl hn
  · refine .inr ⟨g, cap, cur, rfl, hb, ?_, r⟩
    rw [k.block g (Array.getElem?_eq_some_iff.1 hg).1 (hv g rfl)]
    exact hg
/-- The row that a value owns is the old one, or was made since. -/
def Fresh (w : World) (g g' : Option Nat) : Prop := g' = g ∨ ∃ k, g' = some k ∧ w.heap.size ≤ k
theorem Fresh.trans {w w1 : World} {g g1 g2 : Option Nat} (h : Fresh w g g1) (k : Fresh w1 g1 g2) (hw : w.heap.size ≤ w1.heap.size) : Fresh w g g2 := by
  rcases k with rfl | ⟨j, rfl, hj⟩
  · exact h
  · exact .inr ⟨j, rfl, Nat.le_trans hw hj⟩
/-- Two steps that each turn block b and the row then owned. -/
theorem Keeps.step {b : Nat} {w wr w2 : World} {g g1 : Option Nat} (h1 : Keeps (fun k => k = b ∨ g = some k) w wr) (fr : Fresh w g g1) (h2 : Keeps (fun k => k = b ∨ g1 = some k) wr w2) : Keeps (fun k => k = b ∨ g = some k) w w2 :=
  ⟨h2.os.trans h1.os, h2.tape.trans h1.tape, h2.output.trans h1.output, Nat.le_trans h1.size h2.size, fun k hk hs =>
    (h2.block k (Nat.lt_of_lt_of_le hk h1.size) (fun e => by
      rcases e with e | e
      · exact hs (.inl e)
      · rcases fr with rfl | ⟨j, rfl, hj⟩
        · exact hs (.inr e)
        · cases e; omega)).trans (h1.block k hk hs)⟩
/-- A writer (a struct of one slice of bytes) of type T in block b, one of the blocks from B on; its row is in block g; it holds the bytes l. -/
def IsW (T B b : Nat) (g : Option Nat) (l : List UInt8) (w : World) : Prop :=
  B ≤ b ∧ g ≠ some b ∧ ∃ v, w.heap[b]? = some (.cells #[v] T (0, 0)) ∧ v.ownBlock = g ∧ w.ownsRow B 5 1 v l.length (Lib.byteCells l)
theorem IsW.lt {T B b : Nat} {g : Option Nat} {l : List UInt8} {w : World} (h : IsW T B b g l w) : b < w.heap.size := by
  obtain ⟨_, _, v, hv, _⟩ := h
  exact (Array.getElem?_eq_some_iff.1 hv).1
theorem IsW.row {T B b : Nat} {g : Option Nat} {l : List UInt8} {w : World} (h : IsW T B b g l w) : ∀ k, g = some k → B ≤ k ∧ k < w.heap.size := by
  obtain ⟨_, _, v, _, rfl, ho⟩ := h
  exact ho.lt
theorem IsW.keep {S : Nat → Prop} {T B b : Nat} {g : Option Nat} {l : List UInt8} {w w' : World} (h : IsW T B b g l w) (k : Keeps S w w') (hb : ¬ S b) (hg : ∀ j, g = some j → ¬ S j) : IsW T B b g l w' := by
  have hlt := h.lt
  obtain ⟨h1, h2, v, hv, rfl, ho⟩ := h
  exact ⟨h1, h2, v, (k.block b hlt hb).trans hv, rfl, ownsRow_keep ho k hg⟩
theorem IsW.of_len {T B b : Nat} {g : Option Nat} {l m : List UInt8} {w : World} (h : IsW T B b g l w) (e : l = m) : IsW T B b g m w := e ▸ h
/-- The block stands while another row grows. -/
theorem block_grown {wr w1 : World} {o : Obj} {T b : Nat} {v : Value} (hh : wr.heap[b]? = some (.cells #[v] T (0, 0))) (hne : v.ownBlock ≠ some b) (hg : (wr.alloc o).grownBy w1 v.ownBlock) : w1.heap[b]? = some (.cells #[v] T (0, 0)) := by
  have hlt := (Array.getElem?_eq_some_iff.1 hh).1
  rw [hg.block b (by simp; omega) (Ne.symm hne), Below.heap_alloc _ _ _ hlt]
  exact hh
theorem cell_one {w : World} {T b : Nat} {v : Value} (hh : w.heap[b]? = some (.cells #[v] T (0, 0))) : w.cell? ⟨b, 0, none⟩ = some v := by
  rw [cell_of_row w b 0 _ _ _ hh]; rfl
theorem frozen_one {w : World} {T b : Nat} {v : Value} (hh : w.heap[b]? = some (.cells #[v] T (0, 0))) : w.frozen? ⟨b, 0, none⟩ = false := frozen_of_row w b 0 _ _ hh
/-- An append to a writer, its slice stored back. -/
theorem app_done {T B b g1 cap : Nat} {wr w1 : World} {o : Obj} {v : Value} {l news : List UInt8} {n : Nat} (hB : B ≤ b) (hh : wr.heap[b]? = some (.cells #[v] T (0, 0))) (hne : v.ownBlock ≠ some b)
    (hn : l.length + news.length = n)
    (hg : (wr.alloc o).grownBy w1 v.ownBlock) (hown1 : w1.ownsRow B 5 1 (.slice (some ⟨g1, 0, none⟩) n cap) n (Lib.byteCells l ++ Lib.byteCells news)) (hat : v.ownBlock = some g1 ∨ g1 = wr.heap.size + 1) :
    IsW T B b (some g1) (l ++ news) (w1.setCell ⟨b, 0, none⟩ (.slice (some ⟨g1, 0, none⟩) n cap)) ∧ Fresh wr v.ownBlock (some g1) ∧
    Keeps (fun k => k = b ∨ v.ownBlock = some k) wr (w1.setCell ⟨b, 0, none⟩ (.slice (some ⟨g1, 0, none⟩) n cap)) := by
  have hlt := (Array.getElem?_eq_some_iff.1 hh).1
  have hb1 := block_grown hh hne hg
  have hgb : g1 ≠ b := by
    rcases hat with h | h
    · intro e; exact hne (by rw [h, e])
    · omega
  refine ⟨⟨hB, fun e => hgb (Option.some.inj e), .slice (some ⟨g1, 0, none⟩) n cap, ?_, rfl, ?_⟩, ?_, ?_⟩
  · rw [heap_setCell_same w1 b 0 _ T _ hb1]; rfl
  · subst hn
    refine ⟨by simp [Lib.byteCells], ?_⟩
    rcases hown1.2 with ⟨h, _⟩ | ⟨g, c, cur, e, hbase, hheap, r⟩
    · cases h
    · cases e
      refine .inr ⟨g1, cap, cur, by simp, hbase, ?_, ?_⟩
      · rw [Below.heap_setCell _ _ _ _ hgb]; exact hheap
      · rw [List.length_append, Lib.byteCells_append]; exact r
  · rcases hat with h | h
    · exact .inl h.symm
    · exact .inr ⟨g1, rfl, by omega⟩
  · refine Keeps.setCell (((Keeps.refl _ wr).alloc o).grown hg (fun k hk _ => .inr hk)) (fun _ => .inl rfl) _
end Go.Proofs.Ytbnppmkdhnpdfaa
namespace Go.Proofs.Ytbnppmkdhnpdfaa
open Go.RowKit
theorem L_irrefl : ∀ x : List UInt8, Op.bytesLess x x = false
  | [] => rfl
  | a :: x => by simp [Op.bytesLess, L_irrefl x]
theorem L_total : ∀ x y : List UInt8, Op.bytesLess x y = false → Op.bytesLess y x = false → x = y
  | [], [], _, _ => rfl
  | [], _ :: _, h, _ => by simp [Op.bytesLess] at h
  | _ :: _, [], _, h => by simp [Op.bytesLess] at h
  | a :: x, b :: y, h1, h2 => by
    simp only [Op.bytesLess, Bool.or_eq_false_iff, decide_eq_false_iff_not, Bool.and_eq_false_iff] at h1 h2
    have e : a = b := by
      have g1 := h1.1; have g2 := h2.1
      simp only [UInt8.lt_iff_toNat_lt] at g1 g2
      exact UInt8.toNat_inj.1 (by omega)
    subst e
    rw [L_total x y (by simpa using h1.2) (by simpa using h2.2)]
theorem L_trans : ∀ x y z : List UInt8, Op.bytesLess x y = true → Op.bytesLess y z = true → Op.bytesLess x z = true
  | _, _, [], _, h => by cases ‹List UInt8› <;> simp [Op.bytesLess] at h
  | _, [], _ :: _, h, _ => by cases ‹List UInt8› <;> simp [Op.bytesLess] at h
  | [], _ :: _, _ :: _, _, _ => by simp [Op.bytesLess]
  | a :: x, b :: y, c :: z, h1, h2 => by
    simp only [Op.bytesLess, Bool.or_eq_true, decide_eq_true_eq, Bool.and_eq_true, beq_iff_eq, UInt8.lt_iff_toNat_lt] at h1 h2 ⊢
    rcases h1 with h1 | ⟨rfl, h1⟩
    · rcases h2 with h2 | ⟨rfl, h2⟩
      · exact .inl (by omega)
      · exact .inl h1
    · rcases h2 with h2 | ⟨rfl, h2⟩
      · exact .inl h2
      · exact .inr ⟨rfl, L_trans x y z h1 h2⟩
/-- A key is lower than another. -/
def kLt (a b : ByteArray) : Bool := Op.bytesLess a.toList b.toList
/-- A row. -/
structure Rw (β α : Type) where
  k : ByteArray
  v : β
  s : α
/-- A tree of rows. -/
inductive Tr (β α : Type) where
  | nil : Tr β α
  | node (l : Tr β α) (k : ByteArray) (v : β) (s : α) (r : Tr β α) : Tr β α
namespace Tr
variable {β α : Type}
def cnt : Tr β α → Nat
  | nil => 0
  | node l _ _ _ r => l.cnt + 1 + r.cnt
def ht : Tr β α → Nat
  | nil => 0
  | node l _ _ _ r => max l.ht r.ht + 1
def rows : Tr β α → List (Rw β α)
  | nil => []
  | node l k v s r => l.rows ++ ⟨k, v, s⟩ :: r.rows
/-- A node turned to the right. -/
def turnR (k : ByteArray) (v : β) (s : α) (l r : Tr β α) : Tr β α :=
  match l with
  | nil => node nil k v s r
  | node ll lk lv ls lr =>
    if lr.ht ≤ ll.ht then node ll lk lv ls (node lr k v s r) else
      match lr with
      | nil => node (node ll lk lv ls nil) k v s r
      | node a ik iv is b => node (node ll lk lv ls a) ik iv is (node b k v s r)
def turnL (k : ByteArray) (v : β) (s : α) (l r : Tr β α) : Tr β α :=
  match r with
  | nil => node l k v s nil
  | node rl rk rv rs rr =>
    if rl.ht ≤ rr.ht then node (node l k v s rl) rk rv rs rr else
      match rl with
      | nil => node l k v s (node nil rk rv rs rr)
      | node a ik iv is b => node (node l k v s a) ik iv is (node b rk rv rs rr)
def level (k : ByteArray) (v : β) (s : α) (l r : Tr β α) : Tr β α :=
  if l.ht = r.ht + 2 then turnR k v s l r else if r.ht = l.ht + 2 then turnL k v s l r else node l k v s r
def put (k : ByteArray) (v : β) (s : α) : Tr β α → Tr β α
  | nil => node nil k v s nil
  | node l k' v' s' r =>
    if kLt k k' then level k' v' s' (put k v s l) r else if kLt k' k then level k' v' s' l (put k v s r) else node l k v s r
end Tr
end Go.Proofs.Ytbnppmkdhnpdfaa
namespace Go.Proofs.Ytbnppmkdhnpdfaa
open Go.RowKit
set_option linter.unusedVariables false
theorem bthen {w w1 w2 : World} (h : Below w.heap.size w w1) (h2 : Below w1.heap.size w1 w2) : Below w.heap.size w w2 := h.trans (h2.mono h.size)
theorem bnew (w : World) (o : Obj) : Below w.heap.size w (w.alloc o) := (Below.refl _ w).alloc (Nat.le_refl _) _
theorem blk_on {w w' : World} {i : Nat} {o : Obj} (h : w.heap[i]? = some o) (b : Below w.heap.size w w') : w'.heap[i]? = some o := (b.block i (Array.getElem?_eq_some_iff.1 h).1).trans h
/-- A Map. -/
structure Mp where
  A : UInt64
  B : UInt64
def Mp.a (m : Mp) : Int := (m.A.toNat : Int)
def Mp.b (m : Mp) : Int := (m.B.toNat : Int)
end Go.Proofs.Ytbnppmkdhnpdfaa
namespace Go.Proofs.Ytbnppmkdhnpdfaa
open Go.RowKit
set_option linter.unusedVariables false
/-- An entry, plain. -/
structure En where
  k : ByteArray
  c : Int
  n : Int
  v : ByteArray
  d : Bool
theorem ret_bool {a b : Bool} (h : a = b) : Ending.returned (.bool a) = .returned (.bool b) := by rw [h]
theorem cell_in {W W' : World} {p : Addr} {v : Value} (h : W.cell? p = some v) (b : Below W.heap.size W W') : W'.cell? p = some v :=
  (World.cell?_of_block (w := W) (b.block p.block (World.block_lt_of_cell? W _ h))).trans h
/-- What is kept of the world in a loop over a sum's two elements: own blocks from n on. -/
structure Two (w wr : World) (i : Nat) (a b : Int) : Prop where
  below : Below w.heap.size w wr
  low : w.heap.size ≤ i
  blk : wr.heap[i]? = some (.cells #[.int .u64 a, .int .u64 b] 41 (0, 0))
end Go.Proofs.Ytbnppmkdhnpdfaa
namespace Go.Proofs.Ytbnppmkdhnpdfaa
open Go.RowKit
theorem ret_i64 {a b : Int} (h : a = b) : Ending.returned (.int .i64 a) = .returned (.int .i64 b) := by rw [h]
/-- Two numbers. -/
def Vs.c2 (x y : Int) : Int := if y < x then 1 else if x < y then -1 else 0
/-- Whether a version may be. -/
def Vs.chk (c n : Int) : Int := if c < 1 ∨ 1099511627776 < c ∨ n < 0 ∨ 8 ≤ n then 30 else 0
theorem chk_bad1 {c : Int} (n : Int) (h : c < 1) : Vs.chk c n = 30 := by unfold Vs.chk; rw [if_pos (.inl h)]
theorem chk_bad2 {c : Int} (n : Int) (h : 1099511627776 < c) : Vs.chk c n = 30 := by unfold Vs.chk; rw [if_pos (.inr (.inl h))]
theorem chk_bad3 (c : Int) {n : Int} (h : n < 0) : Vs.chk c n = 30 := by unfold Vs.chk; rw [if_pos (.inr (.inr (.inl h)))]
theorem chk_bad4 (c : Int) {n : Int} (h : 8 ≤ n) : Vs.chk c n = 30 := by unfold Vs.chk; rw [if_pos (.inr (.inr (.inr h)))]
theorem chk_ok {c n : Int} (h1 : ¬ c < 1) (h2 : ¬ 1099511627776 < c) (h3 : ¬ n < 0) (h4 : ¬ 8 ≤ n) : Vs.chk c n = 0 := by unfold Vs.chk; rw [if_neg (by omega)]
/-- Whether a number is a node's. -/
def nodeB (n : Int) : Bool := decide (0 ≤ n) && decide (n < 8)
theorem node_no1 {n : Int} (h : n < 0) : nodeB n = false := by simp [nodeB]; omega
theorem node_no2 {n : Int} (h : 8 ≤ n) : nodeB n = false := by simp [nodeB]; omega
theorem node_yes {n : Int} (h1 : ¬ n < 0) (h2 : ¬ 8 ≤ n) : nodeB n = true := by simp [nodeB]; omega
set_option maxHeartbeats 400000 in
theorem isNode_any (n : Int) (w : World) : Calls Try.prog 99 #[.int .i64 n] w fun e w' => e = .returned (.bool (nodeB n)) ∧ w' = w := by
  by_cases h1 : n < 0
  · have h1' : ¬ 0 ≤ n := by omega
    go_enter Try.func99, Try.ntmps99
    go_wp2
    go_ret
    exact ⟨ret_bool (by simp [nodeB]; omega), rfl⟩
  · have h1' : 0 ≤ n := by omega
    go_enter Try.func99, Try.ntmps99
    go_wp2
    go_ret
    exact ⟨ret_bool (by simp [nodeB]; omega), rfl⟩
theorem isNode_at {n : Int} {q : Bool} (h : nodeB n = q) (w : World) : Calls Try.prog 99 #[.int .i64 n] w fun e w' => e = .returned (.bool q) ∧ w' = w := by
  subst h; exact isNode_any n w
set_option maxHeartbeats 800000 in
theorem checkVersion_any (c n : Int) (w : World) : Calls Try.prog 91 #[.agg #[.int .i64 c, .int .i64 n]] w fun e w' => e = .returned (.int .i64 (Vs.chk c n)) ∧ Below w.heap.size w w' := by
  by_cases h1 : c < 1
  · go_enter Try.func91, Try.ntmps91
    go_wp2
    go_ret
    exact ⟨ret_i64 (chk_bad1 n h1).symm, bnew w _⟩
  by_cases h2 : 1099511627776 < c
  · go_enter Try.func91, Try.ntmps91
    go_wp2
    go_ret
    exact ⟨ret_i64 (chk_bad2 n h2).symm, bnew w _⟩
  by_cases h3 : n < 0
  · go_enter Try.func91, Try.ntmps91
    go_wp2_with (go_at_call 99; refine (isNode_at (node_no1 h3) _).mono ?_; rintro e w1 ⟨rfl, rfl⟩)
    go_ret
    exact ⟨ret_i64 (chk_bad3 c h3).symm, bnew w _⟩
  by_cases h4 : 8 ≤ n
  · go_enter Try.func91, Try.ntmps91
    go_wp2_with (go_at_call 99; refine (isNode_at (node_no2 h4) _).mono ?_; rintro e w1 ⟨rfl, rfl⟩)
    go_ret
    exact ⟨ret_i64 (chk_bad4 c h4).symm, bnew w _⟩
  · go_enter Try.func91, Try.ntmps91
    go_wp2_with (go_at_call 99; refine (isNode_at (node_yes h3 h4) _).mono ?_; rintro e w1 ⟨rfl, rfl⟩)
    go_ret
    exact ⟨ret_i64 (chk_ok (by omega) (by omega) (by omega) (by omega)).symm, bnew w _⟩
set_option maxHeartbeats 800000 in
theorem checkVersionRef_any (c n : Int) (w : World) : Calls Try.prog 75 #[.agg #[.int .i64 c, .int .i64 n]] w fun e w' => e = .returned (.int .i64 (Vs.chk c n)) ∧ Below w.heap.size w w' := by
  by_cases h1 : c < 1
  · go_enter Try.func75, Try.ntmps75
    go_wp2
    go_ret
    exact ⟨ret_i64 (chk_bad1 n h1).symm, bnew w _⟩
  by_cases h2 : 1099511627776 < c
  · go_enter Try.func75, Try.ntmps75
    go_wp2
    go_ret
    exact ⟨ret_i64 (chk_bad2 n h2).symm, bnew w _⟩
  by_cases h3 : n < 0
  · go_enter Try.func75, Try.ntmps75
    go_wp2
    go_ret
    exact ⟨ret_i64 (chk_bad3 c h3).symm, bnew w _⟩
  by_cases h4 : 8 ≤ n
  · go_enter Try.func75, Try.ntmps75
    go_wp2
    go_ret
    exact ⟨ret_i64 (chk_bad4 c h4).symm, bnew w _⟩
  · go_enter Try.func75, Try.ntmps75
    go_wp2
    go_ret
    exact ⟨ret_i64 (chk_ok (by omega) (by omega) (by omega) (by omega)).symm, bnew w _⟩
theorem checkVersion_at {c n q : Int} (h : Vs.chk c n = q) (w : World) : Calls Try.prog 91 #[.agg #[.int .i64 c, .int .i64 n]] w fun e w' => e = .returned (.int .i64 q) ∧ Below w.heap.size w w' := by
  subst h; exact checkVersion_any c n w
theorem checkVersionRef_at {c n q : Int} (h : Vs.chk c n = q) (w : World) : Calls Try.prog 75 #[.agg #[.int .i64 c, .int .i64 n]] w fun e w' => e = .returned (.int .i64 q) ∧ Below w.heap.size w w' := by
  subst h; exact checkVersionRef_any c n w
end Go.Proofs.Ytbnppmkdhnpdfaa
namespace Go.Proofs.Ytbnppmkdhnpdfaa
open Go.RowKit
/-- Whether it may be. -/
def En.chk (e : En) : Int :=
  if (16 : Int) < e.k.size then 20 else if Vs.chk e.c e.n ≠ 0 then 30 else if (32 : Int) < e.v.size then 31 else bif (e.d && !e.v.toList.isEmpty) then 32 else 0
theorem En.chk_key {k : ByteArray} (c n : Int) (v : ByteArray) (d : Bool) (h : (16 : Int) < k.size) : En.chk ⟨k, c, n, v, d⟩ = 20 := by simp only [En.chk]; rw [if_pos h]
theorem En.chk_ver {k : ByteArray} {c n : Int} (v : ByteArray) (d : Bool) (h : ¬ (16 : Int) < k.size) (h2 : Vs.chk c n = 30) : En.chk ⟨k, c, n, v, d⟩ = 30 := by simp only [En.chk]; rw [if_neg h, if_pos (by rw [h2]; decide)]
theorem En.chk_val {k : ByteArray} {c n : Int} {v : ByteArray} (d : Bool) (h : ¬ (16 : Int) < k.size) (h2 : Vs.chk c n = 0) (h3 : (32 : Int) < v.size) : En.chk ⟨k, c, n, v, d⟩ = 31 := by
  simp only [En.chk]; rw [if_neg h, if_neg (by rw [h2]; decide), if_pos h3]
theorem En.chk_rest {k : ByteArray} {c n : Int} {v : ByteArray} (d : Bool) (h : ¬ (16 : Int) < k.size) (h2 : Vs.chk c n = 0) (h3 : ¬ (32 : Int) < v.size) : En.chk ⟨k, c, n, v, d⟩ = bif (d && !v.toList.isEmpty) then 32 else 0 := by
  simp only [En.chk]; rw [if_neg h, if_neg (by rw [h2]; decide), if_neg h3]
theorem Vs.chk_two (c n : Int) : Vs.chk c n = 30 ∨ Vs.chk c n = 0 := by
  unfold Vs.chk; split
  · exact .inl rfl
  · exact .inr rfl
set_option maxHeartbeats 1600000 in
theorem ichk_any (k : ByteArray) (c n : Int) (v : ByteArray) (d : Bool) (w : World) :
    Calls Try.prog 74 #[.agg #[.string k, .int .i64 c, .int .i64 n, .string v, .bool d]] w fun e w' => e = .returned (.int .i64 (En.chk ⟨k, c, n, v, d⟩)) ∧ Below w.heap.size w w' := by
  by_cases h1 : (16 : Int) < k.size
  · go_enter Try.func74, Try.ntmps74
    go_wp2
    go_ret
    exact ⟨ret_i64 (En.chk_key c n v d h1).symm, bnew w _⟩
  rcases Vs.chk_two c n with h2 | h2
  · have H2 := aside h2
    go_enter Try.func74, Try.ntmps74
    go_wp2_with (go_at_call 91; refine (checkVersion_at H2.out _).mono ?_; rintro e w1 ⟨rfl, b1⟩)
    go_ret
    exact ⟨ret_i64 (En.chk_ver v d (by omega) H2.out).symm, bthen (bnew w _) b1⟩
  have H2 := aside h2
  clear h2
  have X := fun o => (heap_alloc_new w o)
  have HX := aside X
  clear X
  by_cases h3 : (32 : Int) < v.size
  · go_enter Try.func74, Try.ntmps74
    go_wp2_with fail
    refine (checkVersion_at H2.out _).mono ?_
    rintro e w1 ⟨rfl, b1⟩
    have c3 : w1.cell? ⟨w.heap.size, 3, none⟩ = some (.string v) := (b1.cell (by simp)).trans (by rw [cell_of_row _ w.heap.size 3 _ _ _ (HX.out _)]; rfl)
    go_wp2
    go_ret
    exact ⟨ret_i64 (En.chk_val d (by omega) H2.out (by omega)).symm, bthen (bnew w _) b1⟩
  · cases d <;> cases h5 : v.toList.isEmpty
    all_goals
      go_enter Try.func74, Try.ntmps74
      go_wp2_with fail
      refine (checkVersion_at H2.out _).mono ?_
      rintro e w1 ⟨rfl, b1⟩
      have c3 : w1.cell? ⟨w.heap.size, 3, none⟩ = some (.string v) := (b1.cell (by simp)).trans (by rw [cell_of_row _ w.heap.size 3 _ _ _ (HX.out _)]; rfl)
      first
        | have c4 : w1.cell? ⟨w.heap.size, 4, none⟩ = some (.bool true) := (b1.cell (by simp)).trans (by rw [cell_of_row _ w.heap.size 4 _ _ _ (HX.out _)]; rfl)
        | have c4 : w1.cell? ⟨w.heap.size, 4, none⟩ = some (.bool false) := (b1.cell (by simp)).trans (by rw [cell_of_row _ w.heap.size 4 _ _ _ (HX.out _)]; rfl)
      go_wp2
      go_ret
      exact ⟨ret_i64 (by rw [En.chk_rest _ (by omega) H2.out (by omega), h5]; rfl), bthen (bnew w _) b1⟩
set_option maxHeartbeats 1600000 in
theorem ichkRef_any (k : ByteArray) (c n : Int) (v : ByteArray) (d : Bool) (w : World) :
    Calls Try.prog 55 #[.agg #[.string k, .int .i64 c, .int .i64 n, .string v, .bool d]] w fun e w' => e = .returned (.int .i64 (En.chk ⟨k, c, n, v, d⟩)) ∧ Below w.heap.size w w' := by
  by_cases h1 : (16 : Int) < k.size
  · go_enter Try.func55, Try.ntmps55
    go_wp2
    go_ret
    exact ⟨ret_i64 (En.chk_key c n v d h1).symm, bnew w _⟩
  rcases Vs.chk_two c n with h2 | h2
  · have H2 := aside h2
    go_enter Try.func55, Try.ntmps55
    go_wp2_with (go_at_call 75; refine (checkVersionRef_at H2.out _).mono ?_; rintro e w1 ⟨rfl, b1⟩)
    go_ret
    exact ⟨ret_i64 (En.chk_ver v d (by omega) H2.out).symm, bthen (bnew w _) b1⟩
  have H2 := aside h2
  clear h2
  have X := fun o => (heap_alloc_new w o)
  have HX := aside X
  clear X
  by_cases h3 : (32 : Int) < v.size
  · go_enter Try.func55, Try.ntmps55
    go_wp2_with fail
    refine (checkVersionRef_at H2.out _).mono ?_
    rintro e w1 ⟨rfl, b1⟩
    have c3 : w1.cell? ⟨w.heap.size, 3, none⟩ = some (.string v) := (b1.cell (by simp)).trans (by rw [cell_of_row _ w.heap.size 3 _ _ _ (HX.out _)]; rfl)
    go_wp2
    go_ret
    exact ⟨ret_i64 (En.chk_val d (by omega) H2.out (by omega)).symm, bthen (bnew w _) b1⟩
  · cases d <;> cases h5 : v.toList.isEmpty
    all_goals
      go_enter Try.func55, Try.ntmps55
      go_wp2_with fail
      refine (checkVersionRef_at H2.out _).mono ?_
      rintro e w1 ⟨rfl, b1⟩
      have c3 : w1.cell? ⟨w.heap.size, 3, none⟩ = some (.string v) := (b1.cell (by simp)).trans (by rw [cell_of_row _ w.heap.size 3 _ _ _ (HX.out _)]; rfl)
      first
        | have c4 : w1.cell? ⟨w.heap.size, 4, none⟩ = some (.bool true) := (b1.cell (by simp)).trans (by rw [cell_of_row _ w.heap.size 4 _ _ _ (HX.out _)]; rfl)
        | have c4 : w1.cell? ⟨w.heap.size, 4, none⟩ = some (.bool false) := (b1.cell (by simp)).trans (by rw [cell_of_row _ w.heap.size 4 _ _ _ (HX.out _)]; rfl)
      go_wp2
      go_ret
      exact ⟨ret_i64 (by rw [En.chk_rest _ (by omega) H2.out (by omega), h5]; rfl), bthen (bnew w _) b1⟩
end Go.Proofs.Ytbnppmkdhnpdfaa
namespace Go.Proofs.Ytbnppmkdhnpdfaa
open Go.RowKit
/-- A block of five cells: what they are, and that they may be written. -/
theorem quintF {w : World} {i : Nat} {a b c d e : Value} {T : TypeId} (h : w.heap[i]? = some (.cells #[a, b, c, d, e] T (0, 0))) :
    (w.cell? ⟨i, 0, none⟩ = some a ∧ w.cell? ⟨i, 1, none⟩ = some b ∧ w.cell? ⟨i, 2, none⟩ = some c ∧ w.cell? ⟨i, 3, none⟩ = some d ∧ w.cell? ⟨i, 4, none⟩ = some e) ∧
    w.frozen? ⟨i, 0, none⟩ = false ∧ w.frozen? ⟨i, 1, none⟩ = false ∧ w.frozen? ⟨i, 2, none⟩ = false ∧ w.frozen? ⟨i, 3, none⟩ = false ∧ w.frozen? ⟨i, 4, none⟩ = false :=
  ⟨⟨by rw [cell_of_row _ _ 0 _ _ _ h]; rfl, by rw [cell_of_row _ _ 1 _ _ _ h]; rfl, by rw [cell_of_row _ _ 2 _ _ _ h]; rfl, by rw [cell_of_row _ _ 3 _ _ _ h]; rfl, by rw [cell_of_row _ _ 4 _ _ _ h]; rfl⟩,
    frozen_of_row _ _ 0 _ _ h, frozen_of_row _ _ 1 _ _ h, frozen_of_row _ _ 2 _ _ h, frozen_of_row _ _ 3 _ _ h, frozen_of_row _ _ 4 _ _ h⟩
theorem check_is {k : ByteArray} {c n : Int} {v : ByteArray} {d : Bool} {q : Int} (h : En.chk ⟨k, c, n, v, d⟩ = q) (w : World) :
    Calls Try.prog 74 #[.agg #[.string k, .int .i64 c, .int .i64 n, .string v, .bool d]] w fun e w' => e = .returned (.int .i64 q) ∧ Below w.heap.size w w' := by
  subst h; exact ichk_any k c n v d w
end Go.Proofs.Ytbnppmkdhnpdfaa
namespace Go.Proofs.Ytbnppmkdhnpdfaa
open Go.RowKit
/-- The slice value v reads as the bytes l in world w. -/
def Reads (w : World) (v : Value) (l : List UInt8) : Prop := ∀ n, (convert 30 9 v).run Try.prog (w.drewN n) = .ok (.string ⟨l.toArray⟩) (w.drewN n)
theorem Reads.now {w : World} {v : Value} {l : List UInt8} (h : Reads w v l) : (convert 30 9 v).run Try.prog w = .ok (.string ⟨l.toArray⟩) w := h 0
theorem reads_own {w : World} {B : Nat} {v : Value} {l : List UInt8} (hown : w.ownsRow B 5 1 v l.length (Lib.byteCells l)) : Reads w v l := fun n => conv_own (w.drewN n) B v l hown
/-- A reader of the code in block b: the text s, the place p, the error e. -/
def IsR (b : Nat) (s : ByteArray) (p e : Int) (w : World) : Prop := w.heap[b]? = some (.cells #[.string s, .int .i64 p, .int .i64 e] 95 (0, 0))
theorem IsR.lt {b : Nat} {s : ByteArray} {p e : Int} {w : World} (h : IsR b s p e w) : b < w.heap.size := (Array.getElem?_eq_some_iff.1 h).1
theorem IsR.c0 {b : Nat} {s : ByteArray} {p e : Int} {w : World} (h : IsR b s p e w) : w.cell? ⟨b, 0, none⟩ = some (.string s) := by rw [cell_of_row w b 0 _ _ _ h]; rfl
theorem IsR.c1 {b : Nat} {s : ByteArray} {p e : Int} {w : World} (h : IsR b s p e w) : w.cell? ⟨b, 1, none⟩ = some (.int .i64 p) := by rw [cell_of_row w b 1 _ _ _ h]; rfl
theorem IsR.c2 {b : Nat} {s : ByteArray} {p e : Int} {w : World} (h : IsR b s p e w) : w.cell? ⟨b, 2, none⟩ = some (.int .i64 e) := by rw [cell_of_row w b 2 _ _ _ h]; rfl
theorem IsR.f1 {b : Nat} {s : ByteArray} {p e : Int} {w : World} (h : IsR b s p e w) : w.frozen? ⟨b, 1, none⟩ = false := frozen_of_row w b 1 _ _ h
theorem IsR.f2 {b : Nat} {s : ByteArray} {p e : Int} {w : World} (h : IsR b s p e w) : w.frozen? ⟨b, 2, none⟩ = false := frozen_of_row w b 2 _ _ h
theorem IsR.set1 {b : Nat} {s : ByteArray} {p e : Int} {w : World} (h : IsR b s p e w) (q : Int) : IsR b s q e (w.setCell ⟨b, 1, none⟩ (.int .i64 q)) := by
  unfold IsR; rw [heap_setCell_same w b 1 _ _ _ h]; rfl
theorem IsR.set2 {b : Nat} {s : ByteArray} {p e : Int} {w : World} (h : IsR b s p e w) (q : Int) : IsR b s p q (w.setCell ⟨b, 2, none⟩ (.int .i64 q)) := by
  unfold IsR; rw [heap_setCell_same w b 2 _ _ _ h]; rfl
theorem IsR.keep {S : Nat → Prop} {b : Nat} {s : ByteArray} {p e : Int} {w w' : World} (h : IsR b s p e w) (k : Keeps S w w') (hb : ¬ S b) : IsR b s p e w' := (k.block b h.lt hb).trans h
theorem IsR.drewN {b : Nat} {s : ByteArray} {p e : Int} {w : World} (h : IsR b s p e w) (n : Nat) : IsR b s p e (w.drewN n) := h
set_option maxHeartbeats 400000 in
theorem newReader_any (v : Value) (l : List UInt8) (w : World) (h : Reads w v l) :
    Calls Try.prog 33 #[v] w fun e w' => e = .returned (.pointer (some ⟨w.heap.size, 0, none⟩)) ∧ w' = w.alloc (.cells #[.string ⟨l.toArray⟩, .int .i64 0, .int .i64 0] 95) := by
  have hcv := h.now
  go_enter Try.func33, Try.ntmps33
  go_wp2
  go_ret
  exact ⟨rfl, rfl⟩
theorem isR_new (w : World) (s : ByteArray) : IsR w.heap.size s 0 0 (w.alloc (.cells #[.string s, .int .i64 0, .int .i64 0] 95)) := heap_alloc_new w _
set_option maxHeartbeats 400000 in
theorem rerr_any (b : Nat) (s : ByteArray) (p e : Int) (w : World) (h : IsR b s p e w) :
    Calls Try.prog 78 #[.pointer (some ⟨b, 0, none⟩)] w fun r w' => r = .returned (.int .i64 e) ∧ w' = w := by
  have h2 := h.c2
  go_enter Try.func78, Try.ntmps78
  go_wp2
  go_ret
  exact ⟨rfl, rfl⟩
set_option maxHeartbeats 400000 in
theorem rleft_any (b : Nat) (s : ByteArray) (p e : Int) (w : World) (h : IsR b s p e w) (h0 : 0 ≤ p) (hp : p ≤ (s.size : Int)) (hs : s.size ≤ 1099511627776) :
    Calls Try.prog 59 #[.pointer (some ⟨b, 0, none⟩)] w fun r w' => r = .returned (.int .i64 ((s.size : Int) - p)) ∧ ∃ n, w' = w.drewN n := by
  have h1 := h.c0
  have h2 := h.c1
  go_enter Try.func59, Try.ntmps59
  go_wp2
  go_quiet (fail)
  go_wp2
  go_ret
  exact ⟨rfl, _, rfl⟩
/-- What Fail leaves. -/
def failOf (e x : Int) : Int := if e = 0 then x else e
set_option maxHeartbeats 400000 in
theorem rfail_any (b : Nat) (s : ByteArray) (p e x : Int) (w : World) (h : IsR b s p e w) :
    Calls Try.prog 77 #[.pointer (some ⟨b, 0, none⟩), .int .i64 x] w fun r w' => r = .returned (.tuple #[]) ∧ IsR b s p (failOf e x) w' ∧ Keeps (fun k => k = b) w w' := by
  have h1 := h.c2
  have h2 := h.f2
  have H := aside h
  clear h
  by_cases h0 : e = 0
  · subst h0
    go_enter Try.func77, Try.ntmps77
    go_wp2
    go_end0
    exact ⟨rfl, by rw [show failOf 0 x = x from if_pos rfl]; exact H.out.set2 x, (Keeps.refl (fun k => k = b) w).setCell (p := ⟨b, 2, none⟩) (fun _ => rfl) _⟩
  · have hb : (e == 0) = false := by simp [h0]
    go_enter Try.func77, Try.ntmps77
    go_wp2
    go_end0
    exact ⟨rfl, by rw [show failOf e x = e from if_neg h0]; exact H.out, Keeps.refl _ _⟩
/-- What Done tells. -/
def doneOf (left e : Int) : Int := if e = 0 ∧ 0 < left then 13 else e
set_option maxHeartbeats 400000 in
theorem rdone_any (b : Nat) (s : ByteArray) (p e : Int) (w : World) (h : IsR b s p e w) (h0 : 0 ≤ p) (hp : p ≤ (s.size : Int)) (hs : s.size ≤ 1099511627776) :
    Calls Try.prog 35 #[.pointer (some ⟨b, 0, none⟩)] w fun r w' => r = .returned (.int .i64 (doneOf ((s.size : Int) - p) e)) ∧ ∃ n, w' = w.drewN n := by
  have h2 := h.c2
  by_cases he : e = 0
  · subst he
    by_cases hl : 0 < (s.size : Int) - p
    · go_enter Try.func35, Try.ntmps35
      go_wp2_with (go_at_call 59; refine (rleft_any b s p 0 _ h h0 hp hs).mono ?_; rintro e w' ⟨rfl, n, rfl⟩)
      go_ret
      exact ⟨by rw [doneOf, if_pos ⟨rfl, hl⟩]; rfl, _, rfl⟩
    · have h3 := fun n => (h.drewN n).c2
      go_enter Try.func35, Try.ntmps35
      go_wp2_with (go_at_call 59; refine (rleft_any b s p 0 _ h h0 hp hs).mono ?_; rintro e w' ⟨rfl, n, rfl⟩)
      go_ret
      exact ⟨by rw [doneOf, if_neg (fun x => by omega)]; rfl, _, rfl⟩
  · have hb : (e == 0) = false := by simp [he]
    go_enter Try.func35, Try.ntmps35
    go_wp2
    go_ret
    exact ⟨by rw [doneOf, if_neg (fun x => he x.1)]; rfl, 0, rfl⟩
end Go.Proofs.Ytbnppmkdhnpdfaa
namespace Go.Proofs.Ytbnppmkdhnpdfaa
open Go.RowKit
set_option linter.unusedVariables false
section
variable {B b : Nat} {v : Value} {l : List UInt8} {p e : Int} {w : World}
end
end Go.Proofs.Ytbnppmkdhnpdfaa
namespace Go.Proofs.Ytbnppmkdhnpdfaa.Nm
/-- A number laid down: seven bits a byte, the lowest first, 128 more in each but the last. -/
def enc : Nat → Nat → List UInt8
  | 0, n => [UInt8.ofNat n]
  | f + 1, n => if n < 128 then [UInt8.ofNat n] else UInt8.ofNat (n % 128 + 128) :: enc f (n / 128)
/-- The number that bytes begin with: it, how many bytes it has, what is wrong (10: too short, 11: no such form). -/
def dec : Nat → List UInt8 → Nat × Nat × Nat
  | _, [] => (0, 0, 10)
  | 0, c :: _ => if c.toNat < 128 then (c.toNat, 1, 0) else (0, 0, 11)
  | f + 1, c :: r => if c.toNat < 128 then (c.toNat, 1, 0) else
      if (dec f r).2.2 ≠ 0 then (0, 0, (dec f r).2.2) else if (dec f r).1 = 0 then (0, 0, 11) else (c.toNat - 128 + 128 * (dec f r).1, (dec f r).2.1 + 1, 0)
/-- What was read so far (acc, of j bytes), and what the rest comes to. -/
def cmb (acc j : Nat) (r : Nat × Nat × Nat) : Nat × Nat × Nat :=
  if r.2.2 ≠ 0 then (0, 0, r.2.2) else if 0 < j ∧ r.1 = 0 then (0, 0, 11) else (acc + 128 ^ j * r.1, j + r.2.1, 0)
theorem dec_last (f : Nat) (c : UInt8) (r : List UInt8) (h : c.toNat < 128) : dec f (c :: r) = (c.toNat, 1, 0) := by
  cases f <;> simp [dec, h]
theorem dec_long (c : UInt8) (r : List UInt8) (h : ¬ c.toNat < 128) : dec 0 (c :: r) = (0, 0, 11) := by simp [dec, h]
theorem dec_nil (f : Nat) : dec f [] = (0, 0, 10) := by cases f <;> rfl
theorem cmb_zero (l : List UInt8) (f : Nat) : cmb 0 0 (dec f l) = dec f l := by
  unfold cmb
  have key : ∀ (f : Nat) (l : List UInt8), (dec f l).2.2 ≠ 0 → (dec f l).1 = 0 ∧ (dec f l).2.1 = 0 := by
    intro f
    induction f with
    | zero => intro l; cases l with
      | nil => simp [dec]
      | cons c r => simp only [dec]; split <;> simp
    | succ f ih => intro l; cases l with
      | nil => simp [dec]
      | cons c r =>
        simp only [dec]
        split
        · simp
        · split
          · simp
          · split <;> simp
  by_cases h : (dec f l).2.2 ≠ 0
  · rw [if_pos h]
    obtain ⟨h1, h2⟩ := key f l h
    generalize dec f l = x at *
    obtain ⟨a, b, c⟩ := x
    simp_all
  · rw [if_neg h]
    generalize dec f l = x at *
    obtain ⟨a, b, c⟩ := x
    simp_all
theorem cmb_step (acc j f : Nat) (c : UInt8) (r : List UInt8) (h : ¬ c.toNat < 128) :
    cmb acc j (dec (f + 1) (c :: r)) = cmb (acc + (c.toNat - 128) * 128 ^ j) (j + 1) (dec f r) := by
  simp only [dec, if_neg h]
  generalize dec f r = x
  obtain ⟨n, k, e⟩ := x
  by_cases he : e ≠ 0
  · simp [cmb, he]
  · by_cases hn : n = 0
    · simp [cmb, he, hn]
    · simp only [cmb, he, hn, if_false, ne_eq, not_true_eq_false, and_false]
      rw [if_neg (by omega)]
      simp only [Prod.mk.injEq, and_true]
      refine ⟨?_, by omega⟩
      rw [Nat.pow_succ, Nat.mul_add, Nat.mul_comm (c.toNat - 128), Nat.mul_assoc]
      omega
theorem cmb_last (acc j f : Nat) (c : UInt8) (r : List UInt8) (h : c.toNat < 128) :
    cmb acc j (dec f (c :: r)) = if 0 < j ∧ c.toNat = 0 then (0, 0, 11) else (acc + 128 ^ j * c.toNat, j + 1, 0) := by
  rw [dec_last f c r h]; simp [cmb]
theorem cmb_long (acc j : Nat) (c : UInt8) (r : List UInt8) (h : ¬ c.toNat < 128) : cmb acc j (dec 0 (c :: r)) = (0, 0, 11) := by
  rw [dec_long c r h]; simp [cmb]
theorem cmb_nil (acc j f : Nat) : cmb acc j (dec f []) = (0, 0, 10) := by
  rw [dec_nil]; simp [cmb]
theorem enc_length : ∀ (f n : Nat), 1 ≤ (enc f n).length ∧ (enc f n).length ≤ f + 1
  | 0, n => by simp [enc]
  | f + 1, n => by
    have := enc_length f (n / 128)
    simp only [enc]
    split
    · simp
    · simp; omega
theorem dec_enc : ∀ (f n : Nat) (rest : List UInt8), n < 128 ^ (f + 1) → dec f (enc f n ++ rest) = (n, (enc f n).length, 0)
  | 0, n, rest, h => by
    have hn : n < 128 := by simpa using h
    have e : (UInt8.ofNat n).toNat = n := by rw [UInt8.toNat_ofNat']; exact Nat.mod_eq_of_lt (by omega)
    show dec 0 (UInt8.ofNat n :: rest) = _
    rw [dec_last 0 _ _ (by omega), e]
    rfl
  | f + 1, n, rest, h => by
    by_cases hn : n < 128
    · have e : (UInt8.ofNat n).toNat = n := by rw [UInt8.toNat_ofNat']; exact Nat.mod_eq_of_lt (by omega)
      have e1 : enc (f + 1) n = [UInt8.ofNat n] := by simp [enc, hn]
      rw [e1]
      show dec (f + 1) (UInt8.ofNat n :: rest) = _
      rw [dec_last _ _ _ (by omega), e]
      rfl
    · have e : (UInt8.ofNat (n % 128 + 128)).toNat = n % 128 + 128 := by rw [UInt8.toNat_ofNat']; exact Nat.mod_eq_of_lt (by omega)
      have e1 : enc (f + 1) n = UInt8.ofNat (n % 128 + 128) :: enc f (n / 128) := by simp [enc, hn]
      have ih := dec_enc f (n / 128) rest (by rw [Nat.pow_succ] at h; omega)
      rw [e1]
      show dec (f + 1) (UInt8.ofNat (n % 128 + 128) :: (enc f (n / 128) ++ rest)) = _
      simp only [dec, ih, e, ne_eq, not_true_eq_false, if_false]
      rw [if_neg (by omega), if_neg (by omega)]
      simp only [List.length_cons, Prod.mk.injEq, and_true]
      omega
theorem enc_dec : ∀ (f : Nat) (l : List UInt8) (n k : Nat), dec f l = (n, k, 0) → enc f n = l.take k ∧ 1 ≤ k ∧ k ≤ l.length ∧ n < 128 ^ (f + 1)
  | f, [], n, k, h => by rw [dec_nil] at h; simp at h
  | 0, c :: r, n, k, h => by
    by_cases hc : c.toNat < 128
    · rw [dec_last _ _ _ hc] at h
      simp only [Prod.mk.injEq, and_true] at h
      obtain ⟨rfl, rfl⟩ := h
      exact ⟨by simp [enc], by omega, by simp, by simpa using hc⟩
    · rw [dec_long _ _ hc] at h; simp at h
  | f + 1, c :: r, n, k, h => by
    by_cases hc : c.toNat < 128
    · rw [dec_last _ _ _ hc] at h
      simp only [Prod.mk.injEq, and_true] at h
      obtain ⟨rfl, rfl⟩ := h
      refine ⟨by simp [enc, hc], by omega, by simp, ?_⟩
      have : 1 ≤ 128 ^ (f + 1) := Nat.pow_pos (by omega)
      rw [Nat.pow_succ]
      omega
    · simp only [dec, if_neg hc] at h
      have ih := enc_dec f r
      generalize dec f r = x at h ih
      obtain ⟨m, j, e⟩ := x
      by_cases he : e ≠ 0
      · simp only [he, ne_eq, not_false_eq_true, if_true, Prod.mk.injEq] at h
        exact h.2.2.elim
      · have he0 : e = 0 := by omega
        subst he0
        by_cases hm : m = 0
        · simp [hm] at h
        · simp only [hm, ne_eq, not_true_eq_false, if_false, Prod.mk.injEq, and_true] at h
          obtain ⟨rfl, rfl⟩ := h
          obtain ⟨i1, i2, i3, i4⟩ := ih m j rfl
          have hlt := c.toNat_lt
          have e1 : (c.toNat - 128 + 128 * m) % 128 + 128 = c.toNat := by omega
          have e2 : (c.toNat - 128 + 128 * m) / 128 = m := by omega
          refine ⟨?_, by omega, by simp; omega, ?_⟩
          · simp only [enc]
            rw [if_neg (by omega), e1, e2, i1]
            simp
          · rw [Nat.pow_succ]; omega
/-- The number that a reader is handed, with the most that may stand there. -/
def first (l : List UInt8) (most : Int) : Int × Int × Int :=
  if (dec 8 l).2.2 ≠ 0 then (0, 0, ((dec 8 l).2.2 : Int)) else if most < ((dec 8 l).1 : Int) then (0, 0, 12) else (((dec 8 l).1 : Int), ((dec 8 l).2.1 : Int), 0)
theorem first_bad {l : List UInt8} {most : Int} {e : Nat} (h : dec 8 l = (0, 0, e)) (he : e ≠ 0) : first l most = (0, 0, (e : Int)) := by
  simp [first, h, he]
theorem first_big {l : List UInt8} {most : Int} {n k : Nat} (h : dec 8 l = (n, k, 0)) (hm : most < (n : Int)) : first l most = (0, 0, 12) := by
  simp [first, h, hm]
theorem first_ok {l : List UInt8} {most : Int} {n k : Nat} (h : dec 8 l = (n, k, 0)) (hm : ¬ most < (n : Int)) : first l most = ((n : Int), (k : Int), 0) := by
  simp only [first, h]
  rw [if_neg (by simp), if_neg hm]
/-- In every case: no error, or nothing read. -/
theorem first_form (l : List UInt8) (most : Int) : ∃ (n k : Nat) (e : Int), first l most = ((n : Int), (k : Int), e) ∧ k ≤ l.length ∧ k ≤ 9 ∧ 0 ≤ e ∧ e ≤ 12 ∧ (e ≠ 0 → n = 0 ∧ k = 0) ∧ (n : Int) < 9223372036854775808 ∧ (e = 0 → 1 ≤ k) := by
  have hb : ∀ (f : Nat) (l : List UInt8), (dec f l).2.2 ≤ 11 ∧ (dec f l).2.1 ≤ f + 1 := by
    intro f
    induction f with
    | zero => intro l; cases l with
      | nil => simp [dec]
      | cons c r => simp only [dec]; split <;> simp
    | succ f ih => intro l; cases l with
      | nil => simp [dec]
      | cons c r =>
        simp only [dec]
        have := ih r
        split
        · simp
        · split
          · simp; omega
          · split <;> simp; omega
  have hb := hb 8 l
  have he := enc_dec 8 l
  simp only [first]
  generalize dec 8 l = x at *
  obtain ⟨n, k, e⟩ := x
  by_cases h0 : e = 0
  · subst h0
    obtain ⟨-, h1, h2, h3⟩ := he n k rfl
    simp only [ne_eq, not_true_eq_false, if_false]
    by_cases hm : most < (n : Int)
    · rw [if_pos hm]
      exact ⟨0, 0, 12, rfl, by omega, by omega, by omega, by omega, fun _ => ⟨rfl, rfl⟩, by omega, by omega⟩
    · rw [if_neg hm]
      simp only at hb
      exact ⟨n, k, 0, rfl, h2, by omega, by omega, by omega, fun h => absurd rfl h, by omega, fun _ => h1⟩
  · simp only [ne_eq, h0, not_false_eq_true, if_true]
    simp only at hb
    exact ⟨0, 0, e, rfl, by omega, by omega, by omega, by omega, fun _ => ⟨rfl, rfl⟩, by omega, by omega⟩
end Go.Proofs.Ytbnppmkdhnpdfaa.Nm
namespace Go.Proofs.Ytbnppmkdhnpdfaa
open Go.RowKit
set_option linter.unusedVariables false
/-- A number, its length, an error, as Go hands them back. -/
def triple (r : Int × Int × Int) : Value := .tuple #[.int .i64 r.1, .int .i64 r.2.1, .int .i64 r.2.2]
def FirstRel (l : List UInt8) (n size : Value) : Prop :=
  ∃ j acc : Nat, n = .int .i64 (acc : Int) ∧ size = .int .i64 (j : Int) ∧ j ≤ 8 ∧ j ≤ l.length ∧ acc < 128 ^ j ∧ Nm.dec 8 l = Nm.cmb acc j (Nm.dec (8 - j) (l.drop j))
theorem firstRel_start (l : List UInt8) : FirstRel l (.int .i64 0) (.int .i64 0) := ⟨0, 0, rfl, rfl, by omega, by omega, by simp, by rw [Nm.cmb_zero]; rfl⟩
/-- What a round adds, in the walk's own spelling: nothing wraps. -/
theorem sum_eq (acc j : Nat) (c : UInt8) (hj : (j : Int) ≤ 8) (hacc : acc < 128 ^ j) : wrap64 ((acc : Int) + wrap64 ((c.toNat : Int) % 128 * 2 ^ (7 * j))) = ((acc + 128 ^ j * (c.toNat % 128) : Nat) : Int) := by
  have hj' : j = 0 ∨ j = 1 ∨ j = 2 ∨ j = 3 ∨ j = 4 ∨ j = 5 ∨ j = 6 ∨ j = 7 ∨ j = 8 := by omega
  have hc := c.toNat_lt
  rcases hj' with rfl | rfl | rfl | rfl | rfl | rfl | rfl | rfl | rfl
  all_goals
    simp only [Nat.reducePow, Nat.reduceMul, Int.reducePow] at hacc ⊢
    rw [IntWalk.wrap64_in ((c.toNat : Int) % 128 * _) ⟨by omega, by omega⟩, IntWalk.wrap64_in _ ⟨by omega, by omega⟩]
    omega
theorem pow_lt (acc j c : Nat) (hacc : acc < 128 ^ j) : acc + 128 ^ j * (c % 128) < 128 ^ (j + 1) := by
  rw [Nat.pow_succ]
  have h1 : c % 128 ≤ 127 := by omega
  have h2 := Nat.mul_le_mul_left (128 ^ j) h1
  omega
section
variable {l : List UInt8} {acc j : Nat} {c : UInt8} {r : List UInt8} {most : Int}
theorem dec_here (hD : Nm.dec 8 l = Nm.cmb acc j (Nm.dec (8 - j) (l.drop j))) (hC : l.drop j = c :: r) (_h : (c.toNat : Int) < 128) (hn : ¬ (0 < j ∧ c.toNat = 0)) : Nm.dec 8 l = (acc + 128 ^ j * (c.toNat % 128), j + 1, 0) := by
  rw [hD, hC, Nm.cmb_last acc j _ c r (by omega), if_neg hn, Nat.mod_eq_of_lt (show c.toNat < 128 from by omega)]
theorem way_zero (hD : Nm.dec 8 l = Nm.cmb acc j (Nm.dec (8 - j) (l.drop j))) (hC : l.drop j = c :: r) (_h : (c.toNat : Int) < 128) (_h1 : (1 : Int) < (j : Int) + 1) (h2 : ((c.toNat : Int) == 0) = true) : triple (Nm.first l most) = .tuple #[.int .i64 0, .int .i64 0, .int .i64 11] := by
  have h2' : c.toNat = 0 := by rw [beq_iff_eq] at h2; omega
  have : Nm.dec 8 l = (0, 0, 11) := by rw [hD, hC, Nm.cmb_last acc j _ c r (by omega), if_pos ⟨by omega, h2'⟩]
  rw [Nm.first_bad this (by omega)]; rfl
theorem way_big (hD : Nm.dec 8 l = Nm.cmb acc j (Nm.dec (8 - j) (l.drop j))) (hC : l.drop j = c :: r) (hj : (j : Int) ≤ 8) (hA : acc < 128 ^ j) (h : (c.toNat : Int) < 128) (hn : ¬ (0 < j ∧ c.toNat = 0)) (hm : most < wrap64 ((acc : Int) + wrap64 ((c.toNat : Int) % 128 * 2 ^ (7 * j)))) :
    triple (Nm.first l most) = .tuple #[.int .i64 0, .int .i64 0, .int .i64 12] := by
  rw [Nm.first_big (dec_here hD hC h hn) (by rw [← sum_eq acc j c hj hA]; exact hm)]; rfl
theorem way_ok (hD : Nm.dec 8 l = Nm.cmb acc j (Nm.dec (8 - j) (l.drop j))) (hC : l.drop j = c :: r) (hj : (j : Int) ≤ 8) (hA : acc < 128 ^ j) (h : (c.toNat : Int) < 128) (hn : ¬ (0 < j ∧ c.toNat = 0)) (hm : wrap64 ((acc : Int) + wrap64 ((c.toNat : Int) % 128 * 2 ^ (7 * j))) ≤ most) :
    triple (Nm.first l most) = .tuple #[.int .i64 (wrap64 ((acc : Int) + wrap64 ((c.toNat : Int) % 128 * 2 ^ (7 * j)))), .int .i64 ((j : Int) + 1), .int .i64 0] := by
  have e := sum_eq acc j c hj hA
  rw [Nm.first_ok (dec_here hD hC h hn) (by rw [← e]; omega), e]; rfl
theorem way_long (hD : Nm.dec 8 l = Nm.cmb acc j (Nm.dec (8 - j) (l.drop j))) (hC : l.drop j = c :: r) (hj : (j : Int) ≤ 8) (h : (128 : Int) ≤ c.toNat) (h9 : (9 : Int) ≤ (j : Int) + 1) : triple (Nm.first l most) = .tuple #[.int .i64 0, .int .i64 0, .int .i64 11] := by
  have e : 8 - j = 0 := by omega
  have : Nm.dec 8 l = (0, 0, 11) := by rw [hD, hC, e, Nm.cmb_long acc j c r (by omega)]
  rw [Nm.first_bad this (by omega)]; rfl
theorem way_short (hD : Nm.dec 8 l = Nm.cmb acc j (Nm.dec (8 - j) (l.drop j))) (hC : l.drop j = []) : triple (Nm.first l most) = .tuple #[.int .i64 0, .int .i64 0, .int .i64 10] := by
  have : Nm.dec 8 l = (0, 0, 10) := by rw [hD, hC, Nm.cmb_nil]
  rw [Nm.first_bad this (by omega)]; rfl
theorem way_round (hD : Nm.dec 8 l = Nm.cmb acc j (Nm.dec (8 - j) (l.drop j))) (hC : l.drop j = c :: l.drop (j + 1)) (hj : (j : Int) ≤ 8) (hA : acc < 128 ^ j) (hl : (j : Int) < (l.length : Int)) (h : (128 : Int) ≤ c.toNat) (h9 : (j : Int) + 1 < 9) :
    FirstRel l (.int .i64 (wrap64 ((acc : Int) + wrap64 ((c.toNat : Int) % 128 * 2 ^ (7 * j))))) (.int .i64 ((j : Int) + 1)) := by
  have hb := c.toNat_lt
  refine ⟨j + 1, acc + 128 ^ j * (c.toNat % 128), by rw [sum_eq acc j c hj hA], rfl, by omega, by omega, pow_lt acc j c.toNat hA, ?_⟩
  rw [hD, hC, show 8 - j = (8 - (j + 1)) + 1 from by omega, Nm.cmb_step acc j _ c _ (by omega)]
  rw [Nat.mul_comm (c.toNat - 128), show c.toNat - 128 = c.toNat % 128 from by omega]
theorem nz_beq (h : ((c.toNat : Int) == 0) = false) : ¬ (0 < j ∧ c.toNat = 0) := fun x => by rw [beq_eq_false_iff_ne] at h; omega
theorem nz_j (_h : (j : Int) + 1 ≤ 1) : ¬ (0 < j ∧ c.toNat = 0) := fun x => by omega
end
set_option maxHeartbeats 1600000 in
set_option maxRecDepth 100000 in
theorem firstNum_any (s : ByteArray) (most : Int) (w : World) (hs : s.size ≤ 1099511627776) :
    Calls Try.prog 76 #[.string s, .int .i64 most] w fun e w' => e = .returned (triple (Nm.first s.data.toList most)) ∧ w' = w := by
  go_enter Try.func76, Try.ntmps76
  go_wp2
  go_step3
  go_wp2
  go_step3
  go_wp2
  go_loop [7, 8] (fun n size => FirstRel s.data.toList n size) (fun _ i => 9 - (intOf i).toNat)
  case atStart => exact firstRel_start _
  case round =>
    obtain ⟨j, acc, rfl, rfl, hj8, hjl, hacc, hdec⟩ := hrel
    have hlen : s.data.toList.length = s.size := by show s.data.toList.length = s.data.size; simp
    have HD := aside hdec
    have HA := aside hacc
    have hj : (j : Int) ≤ 8 := by omega
    clear hdec hacc hj8
    by_cases hend : j = s.size
    · have HE : Hid (triple (Nm.first s.data.toList most) = .tuple #[.int .i64 0, .int .i64 0, .int .i64 10]) := way_short HD.out (List.drop_of_length_le (by omega))
      have heq : ((j : Int) == (s.size : Int)) = true := by rw [beq_iff_eq]; omega
      clear hend hjl
      go_wp2
      go_ret3
      exact ⟨by rw [HE.out]; rfl, rfl⟩
    · have hlt : j < s.size := by omega
      have hix := idx_str' s j hlt (j : Int) rfl
      obtain ⟨c, hc⟩ : ∃ c, c = s[j] := ⟨_, rfl⟩
      have hdr := drop_one s j hlt
      rw [← hc] at hix hdr
      have HC := aside hdr
      clear hc hdr
      have hb := c.toNat_lt
      have hb' : (c.toNat : Int) < 256 := by omega
      have hlt' : (j : Int) < (s.size : Int) := by omega
      have hne : ((j : Int) == (s.size : Int)) = false := by rw [beq_eq_false_iff_ne]; omega
      clear hend hjl hlt hb
      have hjl' : (j : Int) < (s.data.toList.length : Int) := by omega
      have HJL := aside hjl'
      clear hjl'
      go_wp2
      · have H := way_zero (most := most) HD.out HC.out (by assumption) (by assumption) (by assumption)
        go_ret3
        exact ⟨by rw [H]; rfl, rfl⟩
      · have H := way_big (most := most) HD.out HC.out hj HA.out (by assumption) (nz_beq (by assumption)) (by assumption)
        go_ret3
        exact ⟨by rw [H]; rfl, rfl⟩
      · have H := way_ok (most := most) HD.out HC.out hj HA.out (by assumption) (nz_beq (by assumption)) (by assumption)
        go_ret3
        exact ⟨by rw [H]; rfl, rfl⟩
      · have H := way_big (most := most) HD.out HC.out hj HA.out (by assumption) (nz_j (by assumption)) (by assumption)
        go_ret3
        exact ⟨by rw [H]; rfl, rfl⟩
      · have H := way_ok (most := most) HD.out HC.out hj HA.out (by assumption) (nz_j (by assumption)) (by assumption)
        go_ret3
        exact ⟨by rw [H]; rfl, rfl⟩
      · have h9 : (j : Int) + 1 < 9 := by assumption
        go_round
        case rel => exact way_round HD.out HC.out hj HA.out HJL.out (by assumption) h9
        case measure => simp [intOf]; omega
      · have H := way_long (most := most) HD.out HC.out hj (by assumption) (by assumption)
        go_ret3
        exact ⟨by rw [H]; rfl, rfl⟩
end Go.Proofs.Ytbnppmkdhnpdfaa
namespace Go.Proofs.Ytbnppmkdhnpdfaa
open Go.RowKit
set_option linter.unusedVariables false
section
variable {l : List UInt8} {acc j : Nat} {c : UInt8} {r : List UInt8} {most E : Int}
end
end Go.Proofs.Ytbnppmkdhnpdfaa
namespace Go.Proofs.Ytbnppmkdhnpdfaa
open Go.RowKit
set_option linter.unusedVariables false
theorem extract_drop (s : ByteArray) (p : Nat) (hp : p ≤ s.size) : (s.extract p s.size).data.toList = s.data.toList.drop p := by
  rw [ByteArray.data_extract]
  show (s.data.extract p s.data.size).toList = _
  rw [Array.toList_extract, List.extract_eq_take_drop, List.take_of_length_le (by simp)]
theorem extract_size (s : ByteArray) (p : Nat) : (s.extract p s.size).size = s.size - p := by simp
set_option maxHeartbeats 400000 in
theorem rnum_broken (b : Nat) (s : ByteArray) (p e most : Int) (w : World) (h : IsR b s p e w) (he : e ≠ 0) :
    Calls Try.prog 56 #[.pointer (some ⟨b, 0, none⟩), .int .i64 most] w fun r w' => r = .returned (.int .i64 0) ∧ w' = w := by
  have h2 := h.c2
  have hb : (e != 0) = true := by simp [he]
  go_enter Try.func56, Try.ntmps56
  go_wp2
  go_ret
  exact ⟨rfl, rfl⟩
/-- firstNum at a part of the text, its three answers named. -/
theorem firstNum_at (s : ByteArray) (p : Nat) (hp : p ≤ s.size) (most n k e : Int) (hF : Nm.first (s.data.toList.drop p) most = (n, k, e)) (w : World) (hs : s.size ≤ 1099511627776) :
    Calls Try.prog 76 #[.string (s.extract p s.size), .int .i64 most] w fun r w' => r = .returned (.tuple #[.int .i64 n, .int .i64 k, .int .i64 e]) ∧ w' = w := by
  have := firstNum_any (s.extract p s.size) most w (by rw [extract_size]; omega)
  rw [extract_drop s p hp, hF] at this
  exact this
set_option maxHeartbeats 1600000 in
set_option maxRecDepth 100000 in
theorem rnum_any (b : Nat) (s : ByteArray) (p : Nat) (most n k e : Int) (w : World) (h : IsR b s (p : Int) 0 w) (hp : p ≤ s.size) (hs : s.size ≤ 1099511627776) (hF : Nm.first (s.data.toList.drop p) most = (n, k, e)) :
    Calls Try.prog 56 #[.pointer (some ⟨b, 0, none⟩), .int .i64 most] w fun r w' => r = .returned (.int .i64 n) ∧ IsR b s ((p : Int) + k) e w' ∧ Keeps (fun x => x = b) w w' := by
  have hk : 0 ≤ k ∧ k ≤ 9 := by
    obtain ⟨n', k', e', hf, _, h9, _⟩ := Nm.first_form (s.data.toList.drop p) most
    rw [hF] at hf
    simp only [Prod.mk.injEq] at hf
    omega
  have C := aside (fun w => firstNum_at s p hp most n k e hF w hs)
  have H := aside h
  have h0 := h.c0
  have h1 := h.c1
  have h2 := h.c2
  have hp0 : (0 : Int) ≤ (p : Int) := by omega
  have hp1 : (p : Int) ≤ (s.size : Int) := by omega
  have hk0 := hk.1
  have hk9 := hk.2
  have hf1 := h.f1
  clear hF hk h
  go_enter Try.func56, Try.ntmps56
  go_wp2_with fail
  go_quiet ((go_at_call 76; exact Calls.quiet_of_same (C.out _)))
  go_wp2_with fail
  refine (rfail_any b s ((p : Int) + k) 0 e _ ?hh).mono ?_
  case hh => exact (H.out.drewN _).set1 ((p : Int) + k)
  rintro r w1 ⟨rfl, hr, hkp⟩
  go_wp2
  go_ret
  refine ⟨rfl, by simpa [failOf] using hr, ?_⟩
  exact (((Keeps.refl (fun x => x = b) w).drewN _).setCell (p := ⟨b, 1, none⟩) (fun _ => rfl) _).trans hkp
end Go.Proofs.Ytbnppmkdhnpdfaa

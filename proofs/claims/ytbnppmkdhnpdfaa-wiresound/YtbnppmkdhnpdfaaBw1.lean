/-
  Bytes that a call owns: what they are as text, and small laws on rows of bytes that the walks of this seat share.
  Memory that a call has made: which blocks a step may turn (Keeps), a writer in its block (IsW), and what an append to it leaves.
  Plain mathematics: the order of keys, trees of rows, what Put makes of them.
  Memory of trees: blocks of one type that stay, a counter of joins, summaries.
  Small facts on blocks of two cells (sums), on frames, and entries as plain data.
  Versions: which may be, how they compare, which is the next; the code's calls and the document's own, each as a plain function.
  Entries: which may be, which is newer, the better of two; the next version; the code's calls and the document's own.
  Blocks and cells that stay; an entry's five cells; Check by its number.
  The code's reader in its block (IsR): NewReader, Err, At, Left, Done, Fail, by contracts.
  The document's own reader in its block (IsRR): Err, At, Left, Done, Fail, by contracts.
  Plain mathematics of numbers as bytes: how a number is laid down (enc), how the number that a row of bytes begins with is read (dec), and that each undoes the other.
  firstNum: it returns the number that the text begins with, its length and the error, as Nm.first says; the world is as it was.
  number and Num of the document's own reader: as Nm.first says; they read, and turn nothing but the reader.
  Num of the code's reader: broken, it answers 0 and stays; else it answers what the bytes at its place say (Nm.first), moves on by as many, and keeps the error.
  Text of the code's reader: broken, it answers nothing and stays; else what the bytes at its place say (textOf).
  Word of the code's reader: broken or with too few bytes left, it answers 0 and stays; else the number of the eight bytes at its place, the highest first.
  Num, Text, Word and Flag of the document's own reader, by contracts.
  Word and Flag of the document's own reader, by contracts.
  Flag of the code's reader: broken, it answers false and stays; else what the byte at its place says.
  What each call of a reader answers and leaves, as plain functions of its bytes, its place and its error: and that both readers, the code's and the document's own, keep to them.
-/
import Derived.Test.YtbnppmkdhnpdfaaProg
import Derived.WalkKit
import Derived.WalkSpells
import Derived.WalkLawsBesides
import Derived.OwnWalk
import Derived.Lib.UnsafeStr
import Derived.Laws.IdiomStrings
import Derived.Deep.AppendLies
import Derived.KernelRfl
import Derived.Below
import Derived.Laws.Rows
import Derived.Deep.QuietTactic
import Derived.BigQuiet
import Derived.WalkMore
import Derived.Laws.BitsAllLaws
namespace Go.Proofs.Ytbnppmkdhnpdfaa
open Go.RowKit
theorem info8 : (Try.prog.info? 5).map (fun i => (i.zero, i.size, i.bytes)) = some (some (.int .u8 0), 1, 1) := by kernel_rfl
/-- 'string(b)' of a row that the call owns. -/
theorem conv_own (w : World) (B : Nat) (v : Value) (l : List UInt8) (hown : w.ownsRow B 5 1 v l.length (Lib.byteCells l)) :
    (convert 30 9 v).run Try.prog w = .ok (.string ⟨l.toArray⟩) w := by
  rcases hown.2 with ⟨rfl, h0⟩ | ⟨g, cap, cur, rfl, -, -, -, -, -, -⟩
  · have hl : l = [] := List.length_eq_zero_iff.1 h0
    subst hl
    rw [run_convert_bytes_string w 30 9 5 none 0 0 Try.underlying30 Try.underlying5 Try.underlying9]
    rfl
  · exact run_convert_bytes_back (P := Try.prog) w 30 9 5 ⟨g, 0, none⟩ cap l Try.underlying30 Try.underlying5 Try.underlying9 (fun j hj => hown.cells (g := g) rfl j _ (by simp [Lib.byteCells, hj]))
/-- A fact put aside: the walk does not look behind the name. -/
theorem aside {p : Prop} (h : p) : Hid p := h
theorem idx_str' (s : ByteArray) (k : Nat) (hk : k < s.size) (i : Int) (h : i = (k : Int)) (w : World) :
    (Instr.index 9 (.string s) (.int .i64 i)).run Try.prog w = .ok (.int .u8 (s[k].toNat : Int)) w := by
  subst h
  rw [run_index_string w 9 _ .i64 _ Try.underlying9, dif_pos ⟨by omega, by omega⟩]
  simp only [Int.toNat_natCast]
theorem drop_one (s : ByteArray) (k : Nat) (h : k < s.size) : s.data.toList.drop k = s[k] :: s.data.toList.drop (k + 1) := by
  rw [List.drop_eq_getElem_cons (show k < s.data.toList.length from by simpa using h)]; rfl
end Go.Proofs.Ytbnppmkdhnpdfaa
namespace Go.Proofs.Ytbnppmkdhnpdfaa
open Go.RowKit
/-- Of the blocks that were there only those in S may have turned; streams as they were; no block has gone. -/
structure Keeps (S : Nat → Prop) (w w' : World) : Prop where
  os : w'.os = w.os
  tape : w'.tape = w.tape
  output : w'.output = w.output
  size : w.heap.size ≤ w'.heap.size
  block : ∀ k, k < w.heap.size → ¬ S k → w'.heap[k]? = w.heap[k]?
theorem Keeps.refl (S : Nat → Prop) (w : World) : Keeps S w w := ⟨rfl, rfl, rfl, Nat.le_refl _, fun _ _ _ => rfl⟩
theorem Keeps.trans {S : Nat → Prop} {a b c : World} (h : Keeps S a b) (k : Keeps S b c) : Keeps S a c :=
  ⟨k.os.trans h.os, k.tape.trans h.tape, k.output.trans h.output, Nat.le_trans h.size k.size, fun i hi hs => (k.block i (Nat.lt_of_lt_of_le hi h.size) hs).trans (h.block i hi hs)⟩
theorem Keeps.mono {S S' : Nat → Prop} {w w' : World} (h : Keeps S w w') (hS : ∀ k, k < w.heap.size → S k → S' k) : Keeps S' w w' :=
  ⟨h.os, h.tape, h.output, h.size, fun k hk hs => h.block k hk (fun s => hs (hS k hk s))⟩
theorem Keeps.drew {S : Nat → Prop} {a w : World} (h : Keeps S a w) : Keeps S a w.drew := ⟨h.os, h.tape, h.output, h.size, h.block⟩
theorem Keeps.drewN {S : Nat → Prop} {a w : World} (h : Keeps S a w) (n : Nat) : Keeps S a (w.drewN n) := ⟨h.os, h.tape, h.output, h.size, h.block⟩
theorem Keeps.alloc {S : Nat → Prop} {a w : World} (h : Keeps S a w) (o : Obj) : Keeps S a (w.alloc o) :=
  h.trans ⟨rfl, rfl, rfl, by simp, fun k hk _ => Below.heap_alloc _ _ _ hk⟩
theorem Keeps.setCell {S : Nat → Prop} {a w : World} (h : Keeps S a w) {p : Addr} (hp : p.block < a.heap.size → S p.block) (u : Value) : Keeps S a (w.setCell p u) :=
  ⟨h.os, h.tape, h.output, Nat.le_trans h.size (by simp [World.setCell]), fun k hk hs => by
    have hne : k ≠ p.block := fun e => by subst e; exact hs (hp hk)
    rw [Below.heap_setCell _ _ _ _ hne]
    exact h.block k hk hs⟩
theorem Keeps.grown {S : Nat → Prop} {a w w' : World} {row : Option Nat} (h : Keeps S a w) (hg : w.grownBy w' row) (hr : ∀ k, row = some k → k < a.heap.size → S k) : Keeps S a w' :=
  ⟨hg.os.trans h.os, hg.tape.trans h.tape, hg.output.trans h.output, Nat.le_trans h.size hg.size, fun k hk hs => (hg.block k (Nat.lt_of_lt_of_le hk h.size) (fun e => hs (hr k e.symm hk))).trans (h.block k hk hs)⟩
theorem Keeps.below {S : Nat → Prop} {w w' : World} (h : Keeps S w w') {B : Nat} (hB : B ≤ w.heap.size) (hS : ∀ k, k < B → ¬ S k) : Below B w w' :=
  ⟨h.os, h.tape, h.output, h.size, fun k hk => h.block k (Nat.lt_of_lt_of_le hk hB) (hS k hk)⟩
theorem Keeps.of_below {w w' : World} (h : Below w.heap.size w w') (S : Nat → Prop) : Keeps S w w' :=
  ⟨h.os, h.tape, h.output, h.size, fun k hk _ => h.block k hk⟩
theorem Keeps.cell {S : Nat → Prop} {w w' : World} (h : Keeps S w w') {p : Addr} (hp : p.block < w.heap.size) (hn : ¬ S p.block) : w'.cell? p = w.cell? p := World.cell?_of_block (w := w) (h.block p.block hp hn)
theorem ownsRow_keep {S : Nat → Prop} {w w' : World} {base : Nat} {e : TypeId} {size : Nat} {v : Value} {n : Nat} {xs : List Value} (h : w.ownsRow base e size v n xs) (k : Keeps S w w') (hv : ∀ j, v.ownBlock = some j → ¬ S j) : w'.ownsRow base e size v n xs := by
  refine ⟨h.1, ?_⟩
  rcases h.2 with hn | ⟨g, cap, cur, rfl, hb, hg, r⟩
  · exact .inl hn
  · refine .inr ⟨g, cap, cur, rfl, hb, ?_, r⟩
    rw [k.block g (Array.getElem?_eq_some_iff.1 hg).1 (hv g rfl)]
    exact hg
/-- The row that a value owns is the old one, or was made since. -/
def Fresh (w : World) (g g' : Option Nat) : Prop := g' = g ∨ ∃ k, g' = some k ∧ w.heap.size ≤ k
theorem Fresh.trans {w w1 : World} {g g1 g2 : Option Nat} (h : Fresh w g g1) (k : Fresh w1 g1 g2) (hw : w.heap.size ≤ w1.heap.size) : Fresh w g g2 := by
  rcases k with rfl | ⟨j, rfl, hj⟩
  · exact h
  · exact .inr ⟨j, rfl, Nat.le_trans hw hj⟩
/-- Two steps that each turn block b and the row then owned. -/
theorem Keeps.step {b : Nat} {w wr w2 : World} {g g1 : Option Nat} (h1 : Keeps (fun k => k = b ∨ g = some k) w wr) (fr : Fresh w g g1) (h2 : Keeps (fun k => k = b ∨ g1 = some k) wr w2) : Keeps (fun k => k = b ∨ g = some k) w w2 :=
  ⟨h2.os.trans h1.os, h2.tape.trans h1.tape, h2.output.trans h1.output, Nat.le_trans h1.size h2.size, fun k hk hs =>
    (h2.block k (Nat.lt_of_lt_of_le hk h1.size) (fun e => by
      rcases e with e | e
      · exact hs (.inl e)
      · rcases fr with rfl | ⟨j, rfl, hj⟩
        · exact hs (.inr e)
        · cases e; omega)).trans (h1.block k hk hs)⟩
/-- A writer (a struct of one slice of bytes) of type T in block b, one of the blocks from B on; its row is in block g; it holds the bytes l. -/
def IsW (T B b : Nat) (g : Option Nat) (l : List UInt8) (w : World) : Prop :=
  B ≤ b ∧ g ≠ some b ∧ ∃ v, w.heap[b]? = some (.cells #[v] T (0, 0)) ∧ v.ownBlock = g ∧ w.ownsRow B 5 1 v l.length (Lib.byteCells l)
theorem IsW.lt {T B b : Nat} {g : Option Nat} {l : List UInt8} {w : World} (h : IsW T B b g l w) : b < w.heap.size := by
  obtain ⟨_, _, v, hv, _⟩ := h
  exact (Array.getElem?_eq_some_iff.1 hv).1
theorem IsW.row {T B b : Nat} {g : Option Nat} {l : List UInt8} {w : World} (h : IsW T B b g l w) : ∀ k, g = some k → B ≤ k ∧ k < w.heap.size := by
  obtain ⟨_, _, v, _, rfl, ho⟩ := h
  exact ho.lt
theorem IsW.keep {S : Nat → Prop} {T B b : Nat} {g : Option Nat} {l : List UInt8} {w w' : World} (h : IsW T B b g l w) (k : Keeps S w w') (hb : ¬ S b) (hg : ∀ j, g = some j → ¬ S j) : IsW T B b g l w' := by
  have hlt := h.lt
  obtain ⟨h1, h2, v, hv, rfl, ho⟩ := h
  exact ⟨h1, h2, v, (k.block b hlt hb).trans hv, rfl, ownsRow_keep ho k hg⟩
theorem IsW.of_len {T B b : Nat} {g : Option Nat} {l m : List UInt8} {w : World} (h : IsW T B b g l w) (e : l = m) : IsW T B b g m w := e ▸ h
/-- The block stands while another row grows. -/
theorem block_grown {wr w1 : World} {o : Obj} {T b : Nat} {v : Value} (hh : wr.heap[b]? = some (.cells #[v] T (0, 0))) (hne : v.ownBlock ≠ some b) (hg : (wr.alloc o).grownBy w1 v.ownBlock) : w1.heap[b]? = some (.cells #[v] T (0, 0)) := by
  have hlt := (Array.getElem?_eq_some_iff.1 hh).1
  rw [hg.block b (by simp; omega) (Ne.symm hne), Below.heap_alloc _ _ _ hlt]
  exact hh
theorem cell_one {w : World} {T b : Nat} {v : Value} (hh : w.heap[b]? = some (.cells #[v] T (0, 0))) : w.cell? ⟨b, 0, none⟩ = some v := by
  rw [cell_of_row w b 0 _ _ _ hh]; rfl
theorem frozen_one {w : World} {T b : Nat} {v : Value} (hh : w.heap[b]? = some (.cells #[v] T (0, 0))) : w.frozen? ⟨b, 0, none⟩ = false := frozen_of_row w b 0 _ _ hh
/-- An append to a writer, its slice stored back. -/
theorem app_done {T B b g1 cap : Nat} {wr w1 : World} {o : Obj} {v : Value} {l news : List UInt8} {n : Nat} (hB : B ≤ b) (hh : wr.heap[b]? = some (.cells #[v] T (0, 0))) (hne : v.ownBlock ≠ some b)
    (hn : l.length + news.length = n)
    (hg : (wr.alloc o).grownBy w1 v.ownBlock) (hown1 : w1.ownsRow B 5 1 (.slice (some ⟨g1, 0, none⟩) n cap) n (Lib.byteCells l ++ Lib.byteCells news)) (hat : v.ownBlock = some g1 ∨ g1 = wr.heap.size + 1) :
    IsW T B b (some g1) (l ++ news) (w1.setCell ⟨b, 0, none⟩ (.slice (some ⟨g1, 0, none⟩) n cap)) ∧ Fresh wr v.ownBlock (some g1) ∧
    Keeps (fun k => k = b ∨ v.ownBlock = some k) wr (w1.setCell ⟨b, 0, none⟩ (.slice (some ⟨g1, 0, none⟩) n cap)) := by
  have hlt := (Array.getElem?_eq_some_iff.1 hh).1
  have hb1 := block_grown hh hne hg
  have hgb : g1 ≠ b := by
    rcases hat with h | h
    · intro e; exact hne (by rw [h, e])
    · omega
  refine ⟨⟨hB, fun e => hgb (Option.some.inj e), .slice (some ⟨g1, 0, none⟩) n cap, ?_, rfl, ?_⟩, ?_, ?_⟩
  · rw [heap_setCell_same w1 b 0 _ T _ hb1]; rfl
  · subst hn
    refine ⟨by simp [Lib.byteCells], ?_⟩
    rcases hown1.2 with ⟨h, _⟩ | ⟨g, c, cur, e, hbase, hheap, r⟩
    · cases h
    · cases e
      refine .inr ⟨g1, cap, cur, by simp, hbase, ?_, ?_⟩
      · rw [Below.heap_setCell _ _ _ _ hgb]; exact hheap
      · rw [List.length_append, Lib.byteCells_append]; exact r
  · rcases hat with h | h
    · exact .inl h.symm
    · exact .inr ⟨g1, rfl, by omega⟩
  · refine Keeps.setCell (((Keeps.refl _ wr).alloc o).grown hg (fun k hk _ => .inr hk)) (fun _ => .inl rfl) _
end Go.Proofs.Ytbnppmkdhnpdfaa
namespace Go.Proofs.Ytbnppmkdhnpdfaa
open Go.RowKit
theorem L_irrefl : ∀ x : List UInt8, Op.bytesLess x x = false
  | [] => rfl
  | a :: x => by simp [Op.bytesLess, L_irrefl x]
theorem L_total : ∀ x y : List UInt8, Op.bytesLess x y = false → Op.bytesLess y x = false → x = y
  | [], [], _, _ => rfl
  | [], _ :: _, h, _ => by simp [Op.bytesLess] at h
  | _ :: _, [], _, h => by simp [Op.bytesLess] at h
  | a :: x, b :: y, h1, h2 => by
    simp only [Op.bytesLess, Bool.or_eq_false_iff, decide_eq_false_iff_not, Bool.and_eq_false_iff] at h1 h2
    have e : a = b := by
      have g1 := h1.1; have g2 := h2.1
      simp only [UInt8.lt_iff_toNat_lt] at g1 g2
      exact UInt8.toNat_inj.1 (by omega)
    subst e
    rw [L_total x y (by simpa using h1.2) (by simpa using h2.2)]
theorem L_trans : ∀ x y z : List UInt8, Op.bytesLess x y = true → Op.bytesLess y z = true → Op.bytesLess x z = true
  | _, _, [], _, h => by cases ‹List UInt8› <;> simp [Op.bytesLess] at h
  | _, [], _ :: _, h, _ => by cases ‹List UInt8› <;> simp [Op.bytesLess] at h
  | [], _ :: _, _ :: _, _, _ => by simp [Op.bytesLess]
  | a :: x, b :: y, c :: z, h1, h2 => by
    simp only [Op.bytesLess, Bool.or_eq_true, decide_eq_true_eq, Bool.and_eq_true, beq_iff_eq, UInt8.lt_iff_toNat_lt] at h1 h2 ⊢
    rcases h1 with h1 | ⟨rfl, h1⟩
    · rcases h2 with h2 | ⟨rfl, h2⟩
      · exact .inl (by omega)
      · exact .inl h1
    · rcases h2 with h2 | ⟨rfl, h2⟩
      · exact .inl h2
      · exact .inr ⟨rfl, L_trans x y z h1 h2⟩
/-- A key is lower than another. -/
def kLt (a b : ByteArray) : Bool := Op.bytesLess a.toList b.toList
/-- A row. -/
structure Rw (β α : Type) where
  k : ByteArray
  v : β
  s : α
/-- A tree of rows. -/
inductive Tr (β α : Type) where
  | nil : Tr β α
  | node (l : Tr β α) (k : ByteArray) (v : β) (s : α) (r : Tr β α) : Tr β α
namespace Tr
variable {β α : Type}
def cnt : Tr β α → Nat
  | nil => 0
  | node l _ _ _ r => l.cnt + 1 + r.cnt
def ht : Tr β α → Nat
  | nil => 0
  | node l _ _ _ r => max l.ht r.ht + 1
def rows : Tr β α → List (Rw β α)
  | nil => []
  | node l k v s r => l.rows ++ ⟨k, v, s⟩ :: r.rows
/-- A node turned to the right. -/
def turnR (k : ByteArray) (v : β) (s : α) (l r : Tr β α) : Tr β α :=
  match l with
  | nil => node nil k v s r
  | node ll lk lv ls lr =>
    if lr.ht ≤ ll.ht then node ll lk lv ls (node lr k v s r) else
      match lr with
      | nil => node (node ll lk lv ls nil) k v s r
      | node a ik iv is b => node (node ll lk lv ls a) ik iv is (node b k v s r)
def turnL (k : ByteArray) (v : β) (s : α) (l r : Tr β α) : Tr β α :=
  match r with
  | nil => node l k v s nil
  | node rl rk rv rs rr =>
    if rl.ht ≤ rr.ht then node (node l k v s rl) rk rv rs rr else
      match rl with
      | nil => node l k v s (node nil rk rv rs rr)
      | node a ik iv is b => node (node l k v s a) ik iv is (node b rk rv rs rr)
def level (k : ByteArray) (v : β) (s : α) (l r : Tr β α) : Tr β α :=
  if l.ht = r.ht + 2 then turnR k v s l r else if r.ht = l.ht + 2 then turnL k v s l r else node l k v s r
def put (k : ByteArray) (v : β) (s : α) : Tr β α → Tr β α
  | nil => node nil k v s nil
  | node l k' v' s' r =>
    if kLt k k' then level k' v' s' (put k v s l) r else if kLt k' k then level k' v' s' l (put k v s r) else node l k v s r
end Tr
end Go.Proofs.Ytbnppmkdhnpdfaa
namespace Go.Proofs.Ytbnppmkdhnpdfaa
open Go.RowKit
set_option linter.unusedVariables false
theorem bthen {w w1 w2 : World} (h : Below w.heap.size w w1) (h2 : Below w1.heap.size w1 w2) : Below w.heap.size w w2 := h.trans (h2.mono h.size)
theorem bnew (w : World) (o : Obj) : Below w.heap.size w (w.alloc o) := (Below.refl _ w).alloc (Nat.le_refl _) _
theorem blk_on {w w' : World} {i : Nat} {o : Obj} (h : w.heap[i]? = some o) (b : Below w.heap.size w w') : w'.heap[i]? = some o := (b.block i (Array.getElem?_eq_some_iff.1 h).1).trans h
theorem lt_of_blk {w : World} {i : Nat} {o : Obj} (h : w.heap[i]? = some o) : i < w.heap.size := (Array.getElem?_eq_some_iff.1 h).1
theorem blk_keep {S : Nat → Prop} {w w' : World} {i : Nat} {o : Obj} (h : w.heap[i]? = some o) (k : Keeps S w w') (hn : ¬ S i) : w'.heap[i]? = some o := (k.block i (lt_of_blk h) hn).trans h
/-- Blocks of the type T stay as they are. -/
def Stay (T : TypeId) (w w' : World) : Prop := ∀ (b : Nat) (cs : Array Value), w.heap[b]? = some (.cells cs T (0, 0)) → w'.heap[b]? = some (.cells cs T (0, 0))
theorem Stay.refl (T : TypeId) (w : World) : Stay T w w := fun _ _ h => h
theorem Stay.trans {T : TypeId} {a b c : World} (h : Stay T a b) (k : Stay T b c) : Stay T a c := fun _ _ e => k _ _ (h _ _ e)
theorem Stay.drew {T : TypeId} {a b : World} (h : Stay T a b) : Stay T a b.drew := fun _ _ e => h _ _ e
theorem Stay.alloc {T : TypeId} {a b : World} (h : Stay T a b) (o : Obj) : Stay T a (b.alloc o) := fun _ _ e => blk_on (h _ _ e) (bnew _ _)
theorem Stay.setCell {T : TypeId} {a b : World} (h : Stay T a b) {p : Addr} (u : Value) (hp : ∀ cs, b.heap[p.block]? ≠ some (.cells cs T (0, 0))) : Stay T a (b.setCell p u) := fun i _ e => by
  rw [heap_setCell_other]
  · exact h _ _ e
  · rintro rfl; exact hp _ (h _ _ e)
theorem Stay.keeps {T : TypeId} {S : Nat → Prop} {a b c : World} (h : Stay T a b) (k : Keeps S b c) (hS : ∀ i cs, b.heap[i]? = some (.cells cs T (0, 0)) → ¬ S i) : Stay T a c := fun i _ e => blk_keep (h _ _ e) k (hS _ _ (h _ _ e))
theorem Stay.grown {T : TypeId} {a b c : World} {row : Option Nat} (h : Stay T a b) (hg : b.grownBy c row) (hrow : ∀ r, row = some r → ∀ cs, b.heap[r]? ≠ some (.cells cs T (0, 0))) : Stay T a c := fun i _ e => by
  have e1 := h _ _ e
  rw [hg.block i (lt_of_blk e1) (fun e2 => hrow i e2.symm _ e1)]
  exact e1
/-- How often a join was called, where it counts: in the block c. -/
def Cnt (c : Option Nat) (n : Nat) (w : World) : Prop := ∀ b : Nat, c = some b → w.heap[b]? = some (.cells #[.int .i64 (IntKind.i64.wrap (n : Int))] 3 (0, 0))
/-- The counter's block. -/
def OnC (c : Option Nat) : Nat → Prop := fun k => c = some k
theorem Cnt.drew {c : Option Nat} {n : Nat} {w : World} (h : Cnt c n w) : Cnt c n w.drew := h
theorem Cnt.alloc {c : Option Nat} {n : Nat} {w : World} (h : Cnt c n w) (o : Obj) : Cnt c n (w.alloc o) := fun b e => blk_on (h b e) (bnew _ _)
theorem Cnt.keep {S : Nat → Prop} {c : Option Nat} {n : Nat} {w w' : World} (h : Cnt c n w) (k : Keeps S w w') (hS : ∀ b, c = some b → ¬ S b) : Cnt c n w' := fun b e => blk_keep (h b e) k (hS b e)
theorem Cnt.below {c : Option Nat} {n : Nat} {w w' : World} (h : Cnt c n w) (k : Below w.heap.size w w') : Cnt c n w' := fun b e => blk_on (h b e) k
theorem Cnt.apart {c : Option Nat} {n : Nat} {w : World} (h : Cnt c n w) {i : Nat} {cs : Array Value} {T : TypeId} (hi : w.heap[i]? = some (.cells cs T (0, 0))) (hT : T ≠ 3) : ¬ OnC c i := fun e => by
  have := h i e
  rw [hi] at this
  injection this with this
  injection this with _ e2
  exact hT e2
theorem Cnt.setCell {c : Option Nat} {n : Nat} {w : World} (h : Cnt c n w) {p : Addr} (u : Value) (hp : ¬ OnC c p.block) : Cnt c n (w.setCell p u) := fun b e => by
  rw [heap_setCell_other]
  · exact h b e
  · intro e2; exact hp (by show c = some p.block; rw [e, e2])
theorem Cnt.lt {c : Option Nat} {n : Nat} {w : World} (h : Cnt c n w) {i : Nat} (hi : w.heap.size ≤ i) : ¬ OnC c i := fun e => by
  have := lt_of_blk (h i e)
  omega
/-- A Map. -/
structure Mp where
  A : UInt64
  B : UInt64
def Mp.a (m : Mp) : Int := (m.A.toNat : Int)
def Mp.b (m : Mp) : Int := (m.B.toNat : Int)
end Go.Proofs.Ytbnppmkdhnpdfaa
namespace Go.Proofs.Ytbnppmkdhnpdfaa
open Go.RowKit
set_option linter.unusedVariables false
/-- An entry, plain. -/
structure En where
  k : ByteArray
  c : Int
  n : Int
  v : ByteArray
  d : Bool
theorem ret_bool {a b : Bool} (h : a = b) : Ending.returned (.bool a) = .returned (.bool b) := by rw [h]
theorem cell_in {W W' : World} {p : Addr} {v : Value} (h : W.cell? p = some v) (b : Below W.heap.size W W') : W'.cell? p = some v :=
  (World.cell?_of_block (w := W) (b.block p.block (World.block_lt_of_cell? W _ h))).trans h
/-- What is kept of the world in a loop over a sum's two elements: own blocks from n on. -/
structure Two (w wr : World) (i : Nat) (a b : Int) : Prop where
  below : Below w.heap.size w wr
  low : w.heap.size ≤ i
  blk : wr.heap[i]? = some (.cells #[.int .u64 a, .int .u64 b] 41 (0, 0))
end Go.Proofs.Ytbnppmkdhnpdfaa
namespace Go.Proofs.Ytbnppmkdhnpdfaa
open Go.RowKit
theorem ret_i64 {a b : Int} (h : a = b) : Ending.returned (.int .i64 a) = .returned (.int .i64 b) := by rw [h]
/-- Two numbers. -/
def Vs.c2 (x y : Int) : Int := if y < x then 1 else if x < y then -1 else 0
/-- Two versions. -/
def Vs.cmp (a n b m : Int) : Int := if b < a then 1 else if a < b then -1 else Vs.c2 n m
/-- Whether a version may be. -/
def Vs.chk (c n : Int) : Int := if c < 1 ∨ 1099511627776 < c ∨ n < 0 ∨ 8 ≤ n then 30 else 0
theorem chk_bad1 {c : Int} (n : Int) (h : c < 1) : Vs.chk c n = 30 := by unfold Vs.chk; rw [if_pos (.inl h)]
theorem chk_bad2 {c : Int} (n : Int) (h : 1099511627776 < c) : Vs.chk c n = 30 := by unfold Vs.chk; rw [if_pos (.inr (.inl h))]
theorem chk_bad3 (c : Int) {n : Int} (h : n < 0) : Vs.chk c n = 30 := by unfold Vs.chk; rw [if_pos (.inr (.inr (.inl h)))]
theorem chk_bad4 (c : Int) {n : Int} (h : 8 ≤ n) : Vs.chk c n = 30 := by unfold Vs.chk; rw [if_pos (.inr (.inr (.inr h)))]
theorem chk_ok {c n : Int} (h1 : ¬ c < 1) (h2 : ¬ 1099511627776 < c) (h3 : ¬ n < 0) (h4 : ¬ 8 ≤ n) : Vs.chk c n = 0 := by unfold Vs.chk; rw [if_neg (by omega)]
/-- Whether a number is a node's. -/
def nodeB (n : Int) : Bool := decide (0 ≤ n) && decide (n < 8)
theorem node_no1 {n : Int} (h : n < 0) : nodeB n = false := by simp [nodeB]; omega
theorem node_no2 {n : Int} (h : 8 ≤ n) : nodeB n = false := by simp [nodeB]; omega
theorem node_yes {n : Int} (h1 : ¬ n < 0) (h2 : ¬ 8 ≤ n) : nodeB n = true := by simp [nodeB]; omega
set_option maxHeartbeats 400000 in
theorem isNode_any (n : Int) (w : World) : Calls Try.prog 99 #[.int .i64 n] w fun e w' => e = .returned (.bool (nodeB n)) ∧ w' = w := by
  by_cases h1 : n < 0
  · have h1' : ¬ 0 ≤ n := by omega
    go_enter Try.func99, Try.ntmps99
    go_wp2
    go_ret
    exact ⟨ret_bool (by simp [nodeB]; omega), rfl⟩
  · have h1' : 0 ≤ n := by omega
    go_enter Try.func99, Try.ntmps99
    go_wp2
    go_ret
    exact ⟨ret_bool (by simp [nodeB]; omega), rfl⟩
theorem isNode_at {n : Int} {q : Bool} (h : nodeB n = q) (w : World) : Calls Try.prog 99 #[.int .i64 n] w fun e w' => e = .returned (.bool q) ∧ w' = w := by
  subst h; exact isNode_any n w
set_option maxHeartbeats 800000 in
theorem checkVersion_any (c n : Int) (w : World) : Calls Try.prog 91 #[.agg #[.int .i64 c, .int .i64 n]] w fun e w' => e = .returned (.int .i64 (Vs.chk c n)) ∧ Below w.heap.size w w' := by
  by_cases h1 : c < 1
  · go_enter Try.func91, Try.ntmps91
    go_wp2
    go_ret
    exact ⟨ret_i64 (chk_bad1 n h1).symm, bnew w _⟩
  by_cases h2 : 1099511627776 < c
  · go_enter Try.func91, Try.ntmps91
    go_wp2
    go_ret
    exact ⟨ret_i64 (chk_bad2 n h2).symm, bnew w _⟩
  by_cases h3 : n < 0
  · go_enter Try.func91, Try.ntmps91
    go_wp2_with (go_at_call 99; refine (isNode_at (node_no1 h3) _).mono ?_; rintro e w1 ⟨rfl, rfl⟩)
    go_ret
    exact ⟨ret_i64 (chk_bad3 c h3).symm, bnew w _⟩
  by_cases h4 : 8 ≤ n
  · go_enter Try.func91, Try.ntmps91
    go_wp2_with (go_at_call 99; refine (isNode_at (node_no2 h4) _).mono ?_; rintro e w1 ⟨rfl, rfl⟩)
    go_ret
    exact ⟨ret_i64 (chk_bad4 c h4).symm, bnew w _⟩
  · go_enter Try.func91, Try.ntmps91
    go_wp2_with (go_at_call 99; refine (isNode_at (node_yes h3 h4) _).mono ?_; rintro e w1 ⟨rfl, rfl⟩)
    go_ret
    exact ⟨ret_i64 (chk_ok (by omega) (by omega) (by omega) (by omega)).symm, bnew w _⟩
set_option maxHeartbeats 800000 in
theorem checkVersionRef_any (c n : Int) (w : World) : Calls Try.prog 75 #[.agg #[.int .i64 c, .int .i64 n]] w fun e w' => e = .returned (.int .i64 (Vs.chk c n)) ∧ Below w.heap.size w w' := by
  by_cases h1 : c < 1
  · go_enter Try.func75, Try.ntmps75
    go_wp2
    go_ret
    exact ⟨ret_i64 (chk_bad1 n h1).symm, bnew w _⟩
  by_cases h2 : 1099511627776 < c
  · go_enter Try.func75, Try.ntmps75
    go_wp2
    go_ret
    exact ⟨ret_i64 (chk_bad2 n h2).symm, bnew w _⟩
  by_cases h3 : n < 0
  · go_enter Try.func75, Try.ntmps75
    go_wp2
    go_ret
    exact ⟨ret_i64 (chk_bad3 c h3).symm, bnew w _⟩
  by_cases h4 : 8 ≤ n
  · go_enter Try.func75, Try.ntmps75
    go_wp2
    go_ret
    exact ⟨ret_i64 (chk_bad4 c h4).symm, bnew w _⟩
  · go_enter Try.func75, Try.ntmps75
    go_wp2
    go_ret
    exact ⟨ret_i64 (chk_ok (by omega) (by omega) (by omega) (by omega)).symm, bnew w _⟩
theorem checkVersion_at {c n q : Int} (h : Vs.chk c n = q) (w : World) : Calls Try.prog 91 #[.agg #[.int .i64 c, .int .i64 n]] w fun e w' => e = .returned (.int .i64 q) ∧ Below w.heap.size w w' := by
  subst h; exact checkVersion_any c n w
theorem checkVersionRef_at {c n q : Int} (h : Vs.chk c n = q) (w : World) : Calls Try.prog 75 #[.agg #[.int .i64 c, .int .i64 n]] w fun e w' => e = .returned (.int .i64 q) ∧ Below w.heap.size w w' := by
  subst h; exact checkVersionRef_any c n w
end Go.Proofs.Ytbnppmkdhnpdfaa
namespace Go.Proofs.Ytbnppmkdhnpdfaa
open Go.RowKit
/-- Whether it may be. -/
def En.chk (e : En) : Int :=
  if (16 : Int) < e.k.size then 20 else if Vs.chk e.c e.n ≠ 0 then 30 else if (32 : Int) < e.v.size then 31 else bif (e.d && !e.v.toList.isEmpty) then 32 else 0
theorem En.chk_key {k : ByteArray} (c n : Int) (v : ByteArray) (d : Bool) (h : (16 : Int) < k.size) : En.chk ⟨k, c, n, v, d⟩ = 20 := by simp only [En.chk]; rw [if_pos h]
theorem En.chk_ver {k : ByteArray} {c n : Int} (v : ByteArray) (d : Bool) (h : ¬ (16 : Int) < k.size) (h2 : Vs.chk c n = 30) : En.chk ⟨k, c, n, v, d⟩ = 30 := by simp only [En.chk]; rw [if_neg h, if_pos (by rw [h2]; decide)]
theorem En.chk_val {k : ByteArray} {c n : Int} {v : ByteArray} (d : Bool) (h : ¬ (16 : Int) < k.size) (h2 : Vs.chk c n = 0) (h3 : (32 : Int) < v.size) : En.chk ⟨k, c, n, v, d⟩ = 31 := by
  simp only [En.chk]; rw [if_neg h, if_neg (by rw [h2]; decide), if_pos h3]
theorem En.chk_rest {k : ByteArray} {c n : Int} {v : ByteArray} (d : Bool) (h : ¬ (16 : Int) < k.size) (h2 : Vs.chk c n = 0) (h3 : ¬ (32 : Int) < v.size) : En.chk ⟨k, c, n, v, d⟩ = bif (d && !v.toList.isEmpty) then 32 else 0 := by
  simp only [En.chk]; rw [if_neg h, if_neg (by rw [h2]; decide), if_neg h3]
theorem Vs.chk_two (c n : Int) : Vs.chk c n = 30 ∨ Vs.chk c n = 0 := by
  unfold Vs.chk; split
  · exact .inl rfl
  · exact .inr rfl
set_option maxHeartbeats 1600000 in
theorem ichk_any (k : ByteArray) (c n : Int) (v : ByteArray) (d : Bool) (w : World) :
    Calls Try.prog 74 #[.agg #[.string k, .int .i64 c, .int .i64 n, .string v, .bool d]] w fun e w' => e = .returned (.int .i64 (En.chk ⟨k, c, n, v, d⟩)) ∧ Below w.heap.size w w' := by
  by_cases h1 : (16 : Int) < k.size
  · go_enter Try.func74, Try.ntmps74
    go_wp2
    go_ret
    exact ⟨ret_i64 (En.chk_key c n v d h1).symm, bnew w _⟩
  rcases Vs.chk_two c n with h2 | h2
  · have H2 := aside h2
    go_enter Try.func74, Try.ntmps74
    go_wp2_with (go_at_call 91; refine (checkVersion_at H2.out _).mono ?_; rintro e w1 ⟨rfl, b1⟩)
    go_ret
    exact ⟨ret_i64 (En.chk_ver v d (by omega) H2.out).symm, bthen (bnew w _) b1⟩
  have H2 := aside h2
  clear h2
  have X := fun o => (heap_alloc_new w o)
  have HX := aside X
  clear X
  by_cases h3 : (32 : Int) < v.size
  · go_enter Try.func74, Try.ntmps74
    go_wp2_with fail
    refine (checkVersion_at H2.out _).mono ?_
    rintro e w1 ⟨rfl, b1⟩
    have c3 : w1.cell? ⟨w.heap.size, 3, none⟩ = some (.string v) := (b1.cell (by simp)).trans (by rw [cell_of_row _ w.heap.size 3 _ _ _ (HX.out _)]; rfl)
    go_wp2
    go_ret
    exact ⟨ret_i64 (En.chk_val d (by omega) H2.out (by omega)).symm, bthen (bnew w _) b1⟩
  · cases d <;> cases h5 : v.toList.isEmpty
    all_goals
      go_enter Try.func74, Try.ntmps74
      go_wp2_with fail
      refine (checkVersion_at H2.out _).mono ?_
      rintro e w1 ⟨rfl, b1⟩
      have c3 : w1.cell? ⟨w.heap.size, 3, none⟩ = some (.string v) := (b1.cell (by simp)).trans (by rw [cell_of_row _ w.heap.size 3 _ _ _ (HX.out _)]; rfl)
      first
        | have c4 : w1.cell? ⟨w.heap.size, 4, none⟩ = some (.bool true) := (b1.cell (by simp)).trans (by rw [cell_of_row _ w.heap.size 4 _ _ _ (HX.out _)]; rfl)
        | have c4 : w1.cell? ⟨w.heap.size, 4, none⟩ = some (.bool false) := (b1.cell (by simp)).trans (by rw [cell_of_row _ w.heap.size 4 _ _ _ (HX.out _)]; rfl)
      go_wp2
      go_ret
      exact ⟨ret_i64 (by rw [En.chk_rest _ (by omega) H2.out (by omega), h5]; rfl), bthen (bnew w _) b1⟩
set_option maxHeartbeats 1600000 in
theorem ichkRef_any (k : ByteArray) (c n : Int) (v : ByteArray) (d : Bool) (w : World) :
    Calls Try.prog 55 #[.agg #[.string k, .int .i64 c, .int .i64 n, .string v, .bool d]] w fun e w' => e = .returned (.int .i64 (En.chk ⟨k, c, n, v, d⟩)) ∧ Below w.heap.size w w' := by
  by_cases h1 : (16 : Int) < k.size
  · go_enter Try.func55, Try.ntmps55
    go_wp2
    go_ret
    exact ⟨ret_i64 (En.chk_key c n v d h1).symm, bnew w _⟩
  rcases Vs.chk_two c n with h2 | h2
  · have H2 := aside h2
    go_enter Try.func55, Try.ntmps55
    go_wp2_with (go_at_call 75; refine (checkVersionRef_at H2.out _).mono ?_; rintro e w1 ⟨rfl, b1⟩)
    go_ret
    exact ⟨ret_i64 (En.chk_ver v d (by omega) H2.out).symm, bthen (bnew w _) b1⟩
  have H2 := aside h2
  clear h2
  have X := fun o => (heap_alloc_new w o)
  have HX := aside X
  clear X
  by_cases h3 : (32 : Int) < v.size
  · go_enter Try.func55, Try.ntmps55
    go_wp2_with fail
    refine (checkVersionRef_at H2.out _).mono ?_
    rintro e w1 ⟨rfl, b1⟩
    have c3 : w1.cell? ⟨w.heap.size, 3, none⟩ = some (.string v) := (b1.cell (by simp)).trans (by rw [cell_of_row _ w.heap.size 3 _ _ _ (HX.out _)]; rfl)
    go_wp2
    go_ret
    exact ⟨ret_i64 (En.chk_val d (by omega) H2.out (by omega)).symm, bthen (bnew w _) b1⟩
  · cases d <;> cases h5 : v.toList.isEmpty
    all_goals
      go_enter Try.func55, Try.ntmps55
      go_wp2_with fail
      refine (checkVersionRef_at H2.out _).mono ?_
      rintro e w1 ⟨rfl, b1⟩
      have c3 : w1.cell? ⟨w.heap.size, 3, none⟩ = some (.string v) := (b1.cell (by simp)).trans (by rw [cell_of_row _ w.heap.size 3 _ _ _ (HX.out _)]; rfl)
      first
        | have c4 : w1.cell? ⟨w.heap.size, 4, none⟩ = some (.bool true) := (b1.cell (by simp)).trans (by rw [cell_of_row _ w.heap.size 4 _ _ _ (HX.out _)]; rfl)
        | have c4 : w1.cell? ⟨w.heap.size, 4, none⟩ = some (.bool false) := (b1.cell (by simp)).trans (by rw [cell_of_row _ w.heap.size 4 _ _ _ (HX.out _)]; rfl)
      go_wp2
      go_ret
      exact ⟨ret_i64 (by rw [En.chk_rest _ (by omega) H2.out (by omega), h5]; rfl), bthen (bnew w _) b1⟩
end Go.Proofs.Ytbnppmkdhnpdfaa
namespace Go.Proofs.Ytbnppmkdhnpdfaa
open Go.RowKit
/-- A block of five cells: what they are, and that they may be written. -/
theorem quintF {w : World} {i : Nat} {a b c d e : Value} {T : TypeId} (h : w.heap[i]? = some (.cells #[a, b, c, d, e] T (0, 0))) :
    (w.cell? ⟨i, 0, none⟩ = some a ∧ w.cell? ⟨i, 1, none⟩ = some b ∧ w.cell? ⟨i, 2, none⟩ = some c ∧ w.cell? ⟨i, 3, none⟩ = some d ∧ w.cell? ⟨i, 4, none⟩ = some e) ∧
    w.frozen? ⟨i, 0, none⟩ = false ∧ w.frozen? ⟨i, 1, none⟩ = false ∧ w.frozen? ⟨i, 2, none⟩ = false ∧ w.frozen? ⟨i, 3, none⟩ = false ∧ w.frozen? ⟨i, 4, none⟩ = false :=
  ⟨⟨by rw [cell_of_row _ _ 0 _ _ _ h]; rfl, by rw [cell_of_row _ _ 1 _ _ _ h]; rfl, by rw [cell_of_row _ _ 2 _ _ _ h]; rfl, by rw [cell_of_row _ _ 3 _ _ _ h]; rfl, by rw [cell_of_row _ _ 4 _ _ _ h]; rfl⟩,
    frozen_of_row _ _ 0 _ _ h, frozen_of_row _ _ 1 _ _ h, frozen_of_row _ _ 2 _ _ h, frozen_of_row _ _ 3 _ _ h, frozen_of_row _ _ 4 _ _ h⟩
theorem check_is {k : ByteArray} {c n : Int} {v : ByteArray} {d : Bool} {q : Int} (h : En.chk ⟨k, c, n, v, d⟩ = q) (w : World) :
    Calls Try.prog 74 #[.agg #[.string k, .int .i64 c, .int .i64 n, .string v, .bool d]] w fun e w' => e = .returned (.int .i64 q) ∧ Below w.heap.size w w' := by
  subst h; exact ichk_any k c n v d w
end Go.Proofs.Ytbnppmkdhnpdfaa
namespace Go.Proofs.Ytbnppmkdhnpdfaa
open Go.RowKit
/-- The slice value v reads as the bytes l in world w. -/
def Reads (w : World) (v : Value) (l : List UInt8) : Prop := ∀ n, (convert 30 9 v).run Try.prog (w.drewN n) = .ok (.string ⟨l.toArray⟩) (w.drewN n)
theorem Reads.now {w : World} {v : Value} {l : List UInt8} (h : Reads w v l) : (convert 30 9 v).run Try.prog w = .ok (.string ⟨l.toArray⟩) w := h 0
theorem reads_own {w : World} {B : Nat} {v : Value} {l : List UInt8} (hown : w.ownsRow B 5 1 v l.length (Lib.byteCells l)) : Reads w v l := fun n => conv_own (w.drewN n) B v l hown
/-- A reader of the code in block b: the text s, the place p, the error e. -/
def IsR (b : Nat) (s : ByteArray) (p e : Int) (w : World) : Prop := w.heap[b]? = some (.cells #[.string s, .int .i64 p, .int .i64 e] 95 (0, 0))
theorem IsR.lt {b : Nat} {s : ByteArray} {p e : Int} {w : World} (h : IsR b s p e w) : b < w.heap.size := (Array.getElem?_eq_some_iff.1 h).1
theorem IsR.c0 {b : Nat} {s : ByteArray} {p e : Int} {w : World} (h : IsR b s p e w) : w.cell? ⟨b, 0, none⟩ = some (.string s) := by rw [cell_of_row w b 0 _ _ _ h]; rfl
theorem IsR.c1 {b : Nat} {s : ByteArray} {p e : Int} {w : World} (h : IsR b s p e w) : w.cell? ⟨b, 1, none⟩ = some (.int .i64 p) := by rw [cell_of_row w b 1 _ _ _ h]; rfl
theorem IsR.c2 {b : Nat} {s : ByteArray} {p e : Int} {w : World} (h : IsR b s p e w) : w.cell? ⟨b, 2, none⟩ = some (.int .i64 e) := by rw [cell_of_row w b 2 _ _ _ h]; rfl
theorem IsR.f1 {b : Nat} {s : ByteArray} {p e : Int} {w : World} (h : IsR b s p e w) : w.frozen? ⟨b, 1, none⟩ = false := frozen_of_row w b 1 _ _ h
theorem IsR.f2 {b : Nat} {s : ByteArray} {p e : Int} {w : World} (h : IsR b s p e w) : w.frozen? ⟨b, 2, none⟩ = false := frozen_of_row w b 2 _ _ h
theorem IsR.set1 {b : Nat} {s : ByteArray} {p e : Int} {w : World} (h : IsR b s p e w) (q : Int) : IsR b s q e (w.setCell ⟨b, 1, none⟩ (.int .i64 q)) := by
  unfold IsR; rw [heap_setCell_same w b 1 _ _ _ h]; rfl
theorem IsR.set2 {b : Nat} {s : ByteArray} {p e : Int} {w : World} (h : IsR b s p e w) (q : Int) : IsR b s p q (w.setCell ⟨b, 2, none⟩ (.int .i64 q)) := by
  unfold IsR; rw [heap_setCell_same w b 2 _ _ _ h]; rfl
theorem IsR.keep {S : Nat → Prop} {b : Nat} {s : ByteArray} {p e : Int} {w w' : World} (h : IsR b s p e w) (k : Keeps S w w') (hb : ¬ S b) : IsR b s p e w' := (k.block b h.lt hb).trans h
theorem IsR.drewN {b : Nat} {s : ByteArray} {p e : Int} {w : World} (h : IsR b s p e w) (n : Nat) : IsR b s p e (w.drewN n) := h
set_option maxHeartbeats 400000 in
theorem newReader_any (v : Value) (l : List UInt8) (w : World) (h : Reads w v l) :
    Calls Try.prog 33 #[v] w fun e w' => e = .returned (.pointer (some ⟨w.heap.size, 0, none⟩)) ∧ w' = w.alloc (.cells #[.string ⟨l.toArray⟩, .int .i64 0, .int .i64 0] 95) := by
  have hcv := h.now
  go_enter Try.func33, Try.ntmps33
  go_wp2
  go_ret
  exact ⟨rfl, rfl⟩
theorem isR_new (w : World) (s : ByteArray) : IsR w.heap.size s 0 0 (w.alloc (.cells #[.string s, .int .i64 0, .int .i64 0] 95)) := heap_alloc_new w _
set_option maxHeartbeats 400000 in
theorem rerr_any (b : Nat) (s : ByteArray) (p e : Int) (w : World) (h : IsR b s p e w) :
    Calls Try.prog 78 #[.pointer (some ⟨b, 0, none⟩)] w fun r w' => r = .returned (.int .i64 e) ∧ w' = w := by
  have h2 := h.c2
  go_enter Try.func78, Try.ntmps78
  go_wp2
  go_ret
  exact ⟨rfl, rfl⟩
set_option maxHeartbeats 400000 in
theorem rleft_any (b : Nat) (s : ByteArray) (p e : Int) (w : World) (h : IsR b s p e w) (h0 : 0 ≤ p) (hp : p ≤ (s.size : Int)) (hs : s.size ≤ 1099511627776) :
    Calls Try.prog 59 #[.pointer (some ⟨b, 0, none⟩)] w fun r w' => r = .returned (.int .i64 ((s.size : Int) - p)) ∧ ∃ n, w' = w.drewN n := by
  have h1 := h.c0
  have h2 := h.c1
  go_enter Try.func59, Try.ntmps59
  go_wp2
  go_quiet (fail)
  go_wp2
  go_ret
  exact ⟨rfl, _, rfl⟩
/-- What Fail leaves. -/
def failOf (e x : Int) : Int := if e = 0 then x else e
set_option maxHeartbeats 400000 in
theorem rfail_any (b : Nat) (s : ByteArray) (p e x : Int) (w : World) (h : IsR b s p e w) :
    Calls Try.prog 77 #[.pointer (some ⟨b, 0, none⟩), .int .i64 x] w fun r w' => r = .returned (.tuple #[]) ∧ IsR b s p (failOf e x) w' ∧ Keeps (fun k => k = b) w w' := by
  have h1 := h.c2
  have h2 := h.f2
  have H := aside h
  clear h
  by_cases h0 : e = 0
  · subst h0
    go_enter Try.func77, Try.ntmps77
    go_wp2
    go_end0
    exact ⟨rfl, by rw [show failOf 0 x = x from if_pos rfl]; exact H.out.set2 x, (Keeps.refl (fun k => k = b) w).setCell (p := ⟨b, 2, none⟩) (fun _ => rfl) _⟩
  · have hb : (e == 0) = false := by simp [h0]
    go_enter Try.func77, Try.ntmps77
    go_wp2
    go_end0
    exact ⟨rfl, by rw [show failOf e x = e from if_neg h0]; exact H.out, Keeps.refl _ _⟩
/-- What Done tells. -/
def doneOf (left e : Int) : Int := if e = 0 ∧ 0 < left then 13 else e
set_option maxHeartbeats 400000 in
theorem rdone_any (b : Nat) (s : ByteArray) (p e : Int) (w : World) (h : IsR b s p e w) (h0 : 0 ≤ p) (hp : p ≤ (s.size : Int)) (hs : s.size ≤ 1099511627776) :
    Calls Try.prog 35 #[.pointer (some ⟨b, 0, none⟩)] w fun r w' => r = .returned (.int .i64 (doneOf ((s.size : Int) - p) e)) ∧ ∃ n, w' = w.drewN n := by
  have h2 := h.c2
  by_cases he : e = 0
  · subst he
    by_cases hl : 0 < (s.size : Int) - p
    · go_enter Try.func35, Try.ntmps35
      go_wp2_with (go_at_call 59; refine (rleft_any b s p 0 _ h h0 hp hs).mono ?_; rintro e w' ⟨rfl, n, rfl⟩)
      go_ret
      exact ⟨by rw [doneOf, if_pos ⟨rfl, hl⟩]; rfl, _, rfl⟩
    · have h3 := fun n => (h.drewN n).c2
      go_enter Try.func35, Try.ntmps35
      go_wp2_with (go_at_call 59; refine (rleft_any b s p 0 _ h h0 hp hs).mono ?_; rintro e w' ⟨rfl, n, rfl⟩)
      go_ret
      exact ⟨by rw [doneOf, if_neg (fun x => by omega)]; rfl, _, rfl⟩
  · have hb : (e == 0) = false := by simp [he]
    go_enter Try.func35, Try.ntmps35
    go_wp2
    go_ret
    exact ⟨by rw [doneOf, if_neg (fun x => he x.1)]; rfl, 0, rfl⟩
end Go.Proofs.Ytbnppmkdhnpdfaa
namespace Go.Proofs.Ytbnppmkdhnpdfaa
open Go.RowKit
set_option linter.unusedVariables false
/-- A reader of the document in block b: its bytes l behind the slice v, the place p, the error e. -/
def IsRR (B b : Nat) (v : Value) (l : List UInt8) (p e : Int) (w : World) : Prop :=
  w.heap[b]? = some (.cells #[v, .int .i64 p, .int .i64 e] 100 (0, 0)) ∧ w.ownsRow B 5 1 v l.length (Lib.byteCells l) ∧ v.ownBlock ≠ some b
section
variable {B b : Nat} {v : Value} {l : List UInt8} {p e : Int} {w : World}
theorem IsRR.lt (h : IsRR B b v l p e w) : b < w.heap.size := (Array.getElem?_eq_some_iff.1 h.1).1
theorem IsRR.c0 (h : IsRR B b v l p e w) : w.cell? ⟨b, 0, none⟩ = some v := by rw [cell_of_row w b 0 _ _ _ h.1]; rfl
theorem IsRR.c1 (h : IsRR B b v l p e w) : w.cell? ⟨b, 1, none⟩ = some (.int .i64 p) := by rw [cell_of_row w b 1 _ _ _ h.1]; rfl
theorem IsRR.c2 (h : IsRR B b v l p e w) : w.cell? ⟨b, 2, none⟩ = some (.int .i64 e) := by rw [cell_of_row w b 2 _ _ _ h.1]; rfl
theorem IsRR.f1 (h : IsRR B b v l p e w) : w.frozen? ⟨b, 1, none⟩ = false := frozen_of_row w b 1 _ _ h.1
theorem IsRR.f2 (h : IsRR B b v l p e w) : w.frozen? ⟨b, 2, none⟩ = false := frozen_of_row w b 2 _ _ h.1
theorem IsRR.keep {S : Nat → Prop} {w' : World} (h : IsRR B b v l p e w) (k : Keeps S w w') (hb : ¬ S b) (hv : ∀ j, v.ownBlock = some j → ¬ S j) : IsRR B b v l p e w' :=
  ⟨(k.block b h.lt hb).trans h.1, ownsRow_keep h.2.1 k hv, h.2.2⟩
theorem own_setCell {a : Addr} {n : Nat} {xs : List Value} (h : w.ownsRow B 5 1 v n xs) (ha : v.ownBlock ≠ some a.block) (u : Value) : (w.setCell a u).ownsRow B 5 1 v n xs :=
  ownsRow_keep h ((Keeps.refl (fun k => k = a.block) w).setCell (fun _ => rfl) u) (fun j hj x => ha (by rw [hj, x]))
theorem IsRR.set1 (h : IsRR B b v l p e w) (q : Int) : IsRR B b v l q e (w.setCell ⟨b, 1, none⟩ (.int .i64 q)) :=
  ⟨by rw [heap_setCell_same w b 1 _ _ _ h.1]; rfl, own_setCell h.2.1 h.2.2 _, h.2.2⟩
theorem IsRR.set2 (h : IsRR B b v l p e w) (q : Int) : IsRR B b v l p q (w.setCell ⟨b, 2, none⟩ (.int .i64 q)) :=
  ⟨by rw [heap_setCell_same w b 2 _ _ _ h.1]; rfl, own_setCell h.2.1 h.2.2 _, h.2.2⟩
theorem IsRR.drewN (h : IsRR B b v l p e w) (n : Nat) : IsRR B b v l p e (w.drewN n) := h
/-- Its slice, written out. -/
theorem IsRR.form (h : IsRR B b v l p e w) : ∃ ra rc, v = .slice ra l.length rc ∧ l.length ≤ rc := by
  rcases h.2.1.2 with ⟨hv, h0⟩ | ⟨g, cap, cur, hv, _, _, hc, _⟩
  · exact ⟨none, 0, by rw [hv, h0], by omega⟩
  · exact ⟨_, _, hv, hc⟩
/-- A byte of it. -/
theorem IsRR.byte (h : IsRR B b v l p e w) (j : Nat) (hj : j < l.length) : ∃ g rc, v = .slice (some ⟨g, 0, none⟩) l.length rc ∧ w.cell? ⟨g, j, none⟩ = some (.int .u8 (l[j].toNat : Int)) := by
  rcases h.2.1.2 with ⟨hv, h0⟩ | ⟨g, cap, cur, hv, _⟩
  · omega
  · subst hv
    refine ⟨g, cap, rfl, ?_⟩
    rw [h.2.1.cellAt j (by omega)]
    simp [Lib.byteCells, hj]
end
end Go.Proofs.Ytbnppmkdhnpdfaa
namespace Go.Proofs.Ytbnppmkdhnpdfaa.Nm
/-- A number laid down: seven bits a byte, the lowest first, 128 more in each but the last. -/
def enc : Nat → Nat → List UInt8
  | 0, n => [UInt8.ofNat n]
  | f + 1, n => if n < 128 then [UInt8.ofNat n] else UInt8.ofNat (n % 128 + 128) :: enc f (n / 128)
/-- The number that bytes begin with: it, how many bytes it has, what is wrong (10: too short, 11: no such form). -/
def dec : Nat → List UInt8 → Nat × Nat × Nat
  | _, [] => (0, 0, 10)
  | 0, c :: _ => if c.toNat < 128 then (c.toNat, 1, 0) else (0, 0, 11)
  | f + 1, c :: r => if c.toNat < 128 then (c.toNat, 1, 0) else
      if (dec f r).2.2 ≠ 0 then (0, 0, (dec f r).2.2) else if (dec f r).1 = 0 then (0, 0, 11) else (c.toNat - 128 + 128 * (dec f r).1, (dec f r).2.1 + 1, 0)
/-- What was read so far (acc, of j bytes), and what the rest comes to. -/
def cmb (acc j : Nat) (r : Nat × Nat × Nat) : Nat × Nat × Nat :=
  if r.2.2 ≠ 0 then (0, 0, r.2.2) else if 0 < j ∧ r.1 = 0 then (0, 0, 11) else (acc + 128 ^ j * r.1, j + r.2.1, 0)
theorem dec_last (f : Nat) (c : UInt8) (r : List UInt8) (h : c.toNat < 128) : dec f (c :: r) = (c.toNat, 1, 0) := by
  cases f <;> simp [dec, h]
theorem dec_long (c : UInt8) (r : List UInt8) (h : ¬ c.toNat < 128) : dec 0 (c :: r) = (0, 0, 11) := by simp [dec, h]
theorem dec_nil (f : Nat) : dec f [] = (0, 0, 10) := by cases f <;> rfl
theorem cmb_zero (l : List UInt8) (f : Nat) : cmb 0 0 (dec f l) = dec f l := by
  unfold cmb
  have key : ∀ (f : Nat) (l : List UInt8), (dec f l).2.2 ≠ 0 → (dec f l).1 = 0 ∧ (dec f l).2.1 = 0 := by
    intro f
    induction f with
    | zero => intro l; cases l with
      | nil => simp [dec]
      | cons c r => simp only [dec]; split <;> simp
    | succ f ih => intro l; cases l with
      | nil => simp [dec]
      | cons c r =>
        simp only [dec]
        split
        · simp
        · split
          · simp
          · split <;> simp
  by_cases h : (dec f l).2.2 ≠ 0
  · rw [if_pos h]
    obtain ⟨h1, h2⟩ := key f l h
    generalize dec f l = x at *
    obtain ⟨a, b, c⟩ := x
    simp_all
  · rw [if_neg h]
    generalize dec f l = x at *
    obtain ⟨a, b, c⟩ := x
    simp_all
theorem cmb_step (acc j f : Nat) (c : UInt8) (r : List UInt8) (h : ¬ c.toNat < 128) :
    cmb acc j (dec (f + 1) (c :: r)) = cmb (acc + (c.toNat - 128) * 128 ^ j) (j + 1) (dec f r) := by
  simp only [dec, if_neg h]
  generalize dec f r = x
  obtain ⟨n, k, e⟩ := x
  by_cases he : e ≠ 0
  · simp [cmb, he]
  · by_cases hn : n = 0
    · simp [cmb, he, hn]
    · simp only [cmb, he, hn, if_false, ne_eq, not_true_eq_false, and_false]
      rw [if_neg (by omega)]
      simp only [Prod.mk.injEq, and_true]
      refine ⟨?_, by omega⟩
      rw [Nat.pow_succ, Nat.mul_add, Nat.mul_comm (c.toNat - 128), Nat.mul_assoc]
      omega
theorem cmb_last (acc j f : Nat) (c : UInt8) (r : List UInt8) (h : c.toNat < 128) :
    cmb acc j (dec f (c :: r)) = if 0 < j ∧ c.toNat = 0 then (0, 0, 11) else (acc + 128 ^ j * c.toNat, j + 1, 0) := by
  rw [dec_last f c r h]; simp [cmb]
theorem cmb_long (acc j : Nat) (c : UInt8) (r : List UInt8) (h : ¬ c.toNat < 128) : cmb acc j (dec 0 (c :: r)) = (0, 0, 11) := by
  rw [dec_long c r h]; simp [cmb]
theorem cmb_nil (acc j f : Nat) : cmb acc j (dec f []) = (0, 0, 10) := by
  rw [dec_nil]; simp [cmb]
theorem enc_length : ∀ (f n : Nat), 1 ≤ (enc f n).length ∧ (enc f n).length ≤ f + 1
  | 0, n => by simp [enc]
  | f + 1, n => by
    have := enc_length f (n / 128)
    simp only [enc]
    split
    · simp
    · simp; omega
theorem dec_enc : ∀ (f n : Nat) (rest : List UInt8), n < 128 ^ (f + 1) → dec f (enc f n ++ rest) = (n, (enc f n).length, 0)
  | 0, n, rest, h => by
    have hn : n < 128 := by simpa using h
    have e : (UInt8.ofNat n).toNat = n := by rw [UInt8.toNat_ofNat']; exact Nat.mod_eq_of_lt (by omega)
    show dec 0 (UInt8.ofNat n :: rest) = _
    rw [dec_last 0 _ _ (by omega), e]
    rfl
  | f + 1, n, rest, h => by
    by_cases hn : n < 128
    · have e : (UInt8.ofNat n).toNat = n := by rw [UInt8.toNat_ofNat']; exact Nat.mod_eq_of_lt (by omega)
      have e1 : enc (f + 1) n = [UInt8.ofNat n] := by simp [enc, hn]
      rw [e1]
      show dec (f + 1) (UInt8.ofNat n :: rest) = _
      rw [dec_last _ _ _ (by omega), e]
      rfl
    · have e : (UInt8.ofNat (n % 128 + 128)).toNat = n % 128 + 128 := by rw [UInt8.toNat_ofNat']; exact Nat.mod_eq_of_lt (by omega)
      have e1 : enc (f + 1) n = UInt8.ofNat (n % 128 + 128) :: enc f (n / 128) := by simp [enc, hn]
      have ih := dec_enc f (n / 128) rest (by rw [Nat.pow_succ] at h; omega)
      rw [e1]
      show dec (f + 1) (UInt8.ofNat (n % 128 + 128) :: (enc f (n / 128) ++ rest)) = _
      simp only [dec, ih, e, ne_eq, not_true_eq_false, if_false]
      rw [if_neg (by omega), if_neg (by omega)]
      simp only [List.length_cons, Prod.mk.injEq, and_true]
      omega
theorem enc_dec : ∀ (f : Nat) (l : List UInt8) (n k : Nat), dec f l = (n, k, 0) → enc f n = l.take k ∧ 1 ≤ k ∧ k ≤ l.length ∧ n < 128 ^ (f + 1)
  | f, [], n, k, h => by rw [dec_nil] at h; simp at h
  | 0, c :: r, n, k, h => by
    by_cases hc : c.toNat < 128
    · rw [dec_last _ _ _ hc] at h
      simp only [Prod.mk.injEq, and_true] at h
      obtain ⟨rfl, rfl⟩ := h
      exact ⟨by simp [enc], by omega, by simp, by simpa using hc⟩
    · rw [dec_long _ _ hc] at h; simp at h
  | f + 1, c :: r, n, k, h => by
    by_cases hc : c.toNat < 128
    · rw [dec_last _ _ _ hc] at h
      simp only [Prod.mk.injEq, and_true] at h
      obtain ⟨rfl, rfl⟩ := h
      refine ⟨by simp [enc, hc], by omega, by simp, ?_⟩
      have : 1 ≤ 128 ^ (f + 1) := Nat.pow_pos (by omega)
      rw [Nat.pow_succ]
      omega
    · simp only [dec, if_neg hc] at h
      have ih := enc_dec f r
      generalize dec f r = x at h ih
      obtain ⟨m, j, e⟩ := x
      by_cases he : e ≠ 0
      · simp only [he, ne_eq, not_false_eq_true, if_true, Prod.mk.injEq] at h
        exact h.2.2.elim
      · have he0 : e = 0 := by omega
        subst he0
        by_cases hm : m = 0
        · simp [hm] at h
        · simp only [hm, ne_eq, not_true_eq_false, if_false, Prod.mk.injEq, and_true] at h
          obtain ⟨rfl, rfl⟩ := h
          obtain ⟨i1, i2, i3, i4⟩ := ih m j rfl
          have hlt := c.toNat_lt
          have e1 : (c.toNat - 128 + 128 * m) % 128 + 128 = c.toNat := by omega
          have e2 : (c.toNat - 128 + 128 * m) / 128 = m := by omega
          refine ⟨?_, by omega, by simp; omega, ?_⟩
          · simp only [enc]
            rw [if_neg (by omega), e1, e2, i1]
            simp
          · rw [Nat.pow_succ]; omega
/-- The number that a reader is handed, with the most that may stand there. -/
def first (l : List UInt8) (most : Int) : Int × Int × Int :=
  if (dec 8 l).2.2 ≠ 0 then (0, 0, ((dec 8 l).2.2 : Int)) else if most < ((dec 8 l).1 : Int) then (0, 0, 12) else (((dec 8 l).1 : Int), ((dec 8 l).2.1 : Int), 0)
theorem first_bad {l : List UInt8} {most : Int} {e : Nat} (h : dec 8 l = (0, 0, e)) (he : e ≠ 0) : first l most = (0, 0, (e : Int)) := by
  simp [first, h, he]
theorem first_big {l : List UInt8} {most : Int} {n k : Nat} (h : dec 8 l = (n, k, 0)) (hm : most < (n : Int)) : first l most = (0, 0, 12) := by
  simp [first, h, hm]
theorem first_ok {l : List UInt8} {most : Int} {n k : Nat} (h : dec 8 l = (n, k, 0)) (hm : ¬ most < (n : Int)) : first l most = ((n : Int), (k : Int), 0) := by
  simp only [first, h]
  rw [if_neg (by simp), if_neg hm]
/-- In every case: no error, or nothing read. -/
theorem first_form (l : List UInt8) (most : Int) : ∃ (n k : Nat) (e : Int), first l most = ((n : Int), (k : Int), e) ∧ k ≤ l.length ∧ k ≤ 9 ∧ 0 ≤ e ∧ e ≤ 12 ∧ (e ≠ 0 → n = 0 ∧ k = 0) ∧ (n : Int) < 9223372036854775808 ∧ (e = 0 → 1 ≤ k) := by
  have hb : ∀ (f : Nat) (l : List UInt8), (dec f l).2.2 ≤ 11 ∧ (dec f l).2.1 ≤ f + 1 := by
    intro f
    induction f with
    | zero => intro l; cases l with
      | nil => simp [dec]
      | cons c r => simp only [dec]; split <;> simp
    | succ f ih => intro l; cases l with
      | nil => simp [dec]
      | cons c r =>
        simp only [dec]
        have := ih r
        split
        · simp
        · split
          · simp; omega
          · split <;> simp; omega
  have hb := hb 8 l
  have he := enc_dec 8 l
  simp only [first]
  generalize dec 8 l = x at *
  obtain ⟨n, k, e⟩ := x
  by_cases h0 : e = 0
  · subst h0
    obtain ⟨-, h1, h2, h3⟩ := he n k rfl
    simp only [ne_eq, not_true_eq_false, if_false]
    by_cases hm : most < (n : Int)
    · rw [if_pos hm]
      exact ⟨0, 0, 12, rfl, by omega, by omega, by omega, by omega, fun _ => ⟨rfl, rfl⟩, by omega, by omega⟩
    · rw [if_neg hm]
      simp only at hb
      exact ⟨n, k, 0, rfl, h2, by omega, by omega, by omega, fun h => absurd rfl h, by omega, fun _ => h1⟩
  · simp only [ne_eq, h0, not_false_eq_true, if_true]
    simp only at hb
    exact ⟨0, 0, e, rfl, by omega, by omega, by omega, by omega, fun _ => ⟨rfl, rfl⟩, by omega, by omega⟩
end Go.Proofs.Ytbnppmkdhnpdfaa.Nm
namespace Go.Proofs.Ytbnppmkdhnpdfaa
open Go.RowKit
set_option linter.unusedVariables false
/-- A number, its length, an error, as Go hands them back. -/
def triple (r : Int × Int × Int) : Value := .tuple #[.int .i64 r.1, .int .i64 r.2.1, .int .i64 r.2.2]
def FirstRel (l : List UInt8) (n size : Value) : Prop :=
  ∃ j acc : Nat, n = .int .i64 (acc : Int) ∧ size = .int .i64 (j : Int) ∧ j ≤ 8 ∧ j ≤ l.length ∧ acc < 128 ^ j ∧ Nm.dec 8 l = Nm.cmb acc j (Nm.dec (8 - j) (l.drop j))
theorem firstRel_start (l : List UInt8) : FirstRel l (.int .i64 0) (.int .i64 0) := ⟨0, 0, rfl, rfl, by omega, by omega, by simp, by rw [Nm.cmb_zero]; rfl⟩
/-- What a round adds, in the walk's own spelling: nothing wraps. -/
theorem sum_eq (acc j : Nat) (c : UInt8) (hj : (j : Int) ≤ 8) (hacc : acc < 128 ^ j) : wrap64 ((acc : Int) + wrap64 ((c.toNat : Int) % 128 * 2 ^ (7 * j))) = ((acc + 128 ^ j * (c.toNat % 128) : Nat) : Int) := by
  have hj' : j = 0 ∨ j = 1 ∨ j = 2 ∨ j = 3 ∨ j = 4 ∨ j = 5 ∨ j = 6 ∨ j = 7 ∨ j = 8 := by omega
  have hc := c.toNat_lt
  rcases hj' with rfl | rfl | rfl | rfl | rfl | rfl | rfl | rfl | rfl
  all_goals
    simp only [Nat.reducePow, Nat.reduceMul, Int.reducePow] at hacc ⊢
    rw [IntWalk.wrap64_in ((c.toNat : Int) % 128 * _) ⟨by omega, by omega⟩, IntWalk.wrap64_in _ ⟨by omega, by omega⟩]
    omega
theorem pow_lt (acc j c : Nat) (hacc : acc < 128 ^ j) : acc + 128 ^ j * (c % 128) < 128 ^ (j + 1) := by
  rw [Nat.pow_succ]
  have h1 : c % 128 ≤ 127 := by omega
  have h2 := Nat.mul_le_mul_left (128 ^ j) h1
  omega
section
variable {l : List UInt8} {acc j : Nat} {c : UInt8} {r : List UInt8} {most : Int}
theorem dec_here (hD : Nm.dec 8 l = Nm.cmb acc j (Nm.dec (8 - j) (l.drop j))) (hC : l.drop j = c :: r) (_h : (c.toNat : Int) < 128) (hn : ¬ (0 < j ∧ c.toNat = 0)) : Nm.dec 8 l = (acc + 128 ^ j * (c.toNat % 128), j + 1, 0) := by
  rw [hD, hC, Nm.cmb_last acc j _ c r (by omega), if_neg hn, Nat.mod_eq_of_lt (show c.toNat < 128 from by omega)]
theorem way_zero (hD : Nm.dec 8 l = Nm.cmb acc j (Nm.dec (8 - j) (l.drop j))) (hC : l.drop j = c :: r) (_h : (c.toNat : Int) < 128) (_h1 : (1 : Int) < (j : Int) + 1) (h2 : ((c.toNat : Int) == 0) = true) : triple (Nm.first l most) = .tuple #[.int .i64 0, .int .i64 0, .int .i64 11] := by
  have h2' : c.toNat = 0 := by rw [beq_iff_eq] at h2; omega
  have : Nm.dec 8 l = (0, 0, 11) := by rw [hD, hC, Nm.cmb_last acc j _ c r (by omega), if_pos ⟨by omega, h2'⟩]
  rw [Nm.first_bad this (by omega)]; rfl
theorem way_big (hD : Nm.dec 8 l = Nm.cmb acc j (Nm.dec (8 - j) (l.drop j))) (hC : l.drop j = c :: r) (hj : (j : Int) ≤ 8) (hA : acc < 128 ^ j) (h : (c.toNat : Int) < 128) (hn : ¬ (0 < j ∧ c.toNat = 0)) (hm : most < wrap64 ((acc : Int) + wrap64 ((c.toNat : Int) % 128 * 2 ^ (7 * j)))) :
    triple (Nm.first l most) = .tuple #[.int .i64 0, .int .i64 0, .int .i64 12] := by
  rw [Nm.first_big (dec_here hD hC h hn) (by rw [← sum_eq acc j c hj hA]; exact hm)]; rfl
theorem way_ok (hD : Nm.dec 8 l = Nm.cmb acc j (Nm.dec (8 - j) (l.drop j))) (hC : l.drop j = c :: r) (hj : (j : Int) ≤ 8) (hA : acc < 128 ^ j) (h : (c.toNat : Int) < 128) (hn : ¬ (0 < j ∧ c.toNat = 0)) (hm : wrap64 ((acc : Int) + wrap64 ((c.toNat : Int) % 128 * 2 ^ (7 * j))) ≤ most) :
    triple (Nm.first l most) = .tuple #[.int .i64 (wrap64 ((acc : Int) + wrap64 ((c.toNat : Int) % 128 * 2 ^ (7 * j)))), .int .i64 ((j : Int) + 1), .int .i64 0] := by
  have e := sum_eq acc j c hj hA
  rw [Nm.first_ok (dec_here hD hC h hn) (by rw [← e]; omega), e]; rfl
theorem way_long (hD : Nm.dec 8 l = Nm.cmb acc j (Nm.dec (8 - j) (l.drop j))) (hC : l.drop j = c :: r) (hj : (j : Int) ≤ 8) (h : (128 : Int) ≤ c.toNat) (h9 : (9 : Int) ≤ (j : Int) + 1) : triple (Nm.first l most) = .tuple #[.int .i64 0, .int .i64 0, .int .i64 11] := by
  have e : 8 - j = 0 := by omega
  have : Nm.dec 8 l = (0, 0, 11) := by rw [hD, hC, e, Nm.cmb_long acc j c r (by omega)]
  rw [Nm.first_bad this (by omega)]; rfl
theorem way_short (hD : Nm.dec 8 l = Nm.cmb acc j (Nm.dec (8 - j) (l.drop j))) (hC : l.drop j = []) : triple (Nm.first l most) = .tuple #[.int .i64 0, .int .i64 0, .int .i64 10] := by
  have : Nm.dec 8 l = (0, 0, 10) := by rw [hD, hC, Nm.cmb_nil]
  rw [Nm.first_bad this (by omega)]; rfl
theorem way_round (hD : Nm.dec 8 l = Nm.cmb acc j (Nm.dec (8 - j) (l.drop j))) (hC : l.drop j = c :: l.drop (j + 1)) (hj : (j : Int) ≤ 8) (hA : acc < 128 ^ j) (hl : (j : Int) < (l.length : Int)) (h : (128 : Int) ≤ c.toNat) (h9 : (j : Int) + 1 < 9) :
    FirstRel l (.int .i64 (wrap64 ((acc : Int) + wrap64 ((c.toNat : Int) % 128 * 2 ^ (7 * j))))) (.int .i64 ((j : Int) + 1)) := by
  have hb := c.toNat_lt
  refine ⟨j + 1, acc + 128 ^ j * (c.toNat % 128), by rw [sum_eq acc j c hj hA], rfl, by omega, by omega, pow_lt acc j c.toNat hA, ?_⟩
  rw [hD, hC, show 8 - j = (8 - (j + 1)) + 1 from by omega, Nm.cmb_step acc j _ c _ (by omega)]
  rw [Nat.mul_comm (c.toNat - 128), show c.toNat - 128 = c.toNat % 128 from by omega]
theorem nz_beq (h : ((c.toNat : Int) == 0) = false) : ¬ (0 < j ∧ c.toNat = 0) := fun x => by rw [beq_eq_false_iff_ne] at h; omega
theorem nz_j (_h : (j : Int) + 1 ≤ 1) : ¬ (0 < j ∧ c.toNat = 0) := fun x => by omega
end
set_option maxHeartbeats 1600000 in
set_option maxRecDepth 100000 in
theorem firstNum_any (s : ByteArray) (most : Int) (w : World) (hs : s.size ≤ 1099511627776) :
    Calls Try.prog 76 #[.string s, .int .i64 most] w fun e w' => e = .returned (triple (Nm.first s.data.toList most)) ∧ w' = w := by
  go_enter Try.func76, Try.ntmps76
  go_wp2
  go_step3
  go_wp2
  go_step3
  go_wp2
  go_loop [7, 8] (fun n size => FirstRel s.data.toList n size) (fun _ i => 9 - (intOf i).toNat)
  case atStart => exact firstRel_start _
  case round =>
    obtain ⟨j, acc, rfl, rfl, hj8, hjl, hacc, hdec⟩ := hrel
    have hlen : s.data.toList.length = s.size := by show s.data.toList.length = s.data.size; simp
    have HD := aside hdec
    have HA := aside hacc
    have hj : (j : Int) ≤ 8 := by omega
    clear hdec hacc hj8
    by_cases hend : j = s.size
    · have HE : Hid (triple (Nm.first s.data.toList most) = .tuple #[.int .i64 0, .int .i64 0, .int .i64 10]) := way_short HD.out (List.drop_of_length_le (by omega))
      have heq : ((j : Int) == (s.size : Int)) = true := by rw [beq_iff_eq]; omega
      clear hend hjl
      go_wp2
      go_ret3
      exact ⟨by rw [HE.out]; rfl, rfl⟩
    · have hlt : j < s.size := by omega
      have hix := idx_str' s j hlt (j : Int) rfl
      obtain ⟨c, hc⟩ : ∃ c, c = s[j] := ⟨_, rfl⟩
      have hdr := drop_one s j hlt
      rw [← hc] at hix hdr
      have HC := aside hdr
      clear hc hdr
      have hb := c.toNat_lt
      have hb' : (c.toNat : Int) < 256 := by omega
      have hlt' : (j : Int) < (s.size : Int) := by omega
      have hne : ((j : Int) == (s.size : Int)) = false := by rw [beq_eq_false_iff_ne]; omega
      clear hend hjl hlt hb
      have hjl' : (j : Int) < (s.data.toList.length : Int) := by omega
      have HJL := aside hjl'
      clear hjl'
      go_wp2
      · have H := way_zero (most := most) HD.out HC.out (by assumption) (by assumption) (by assumption)
        go_ret3
        exact ⟨by rw [H]; rfl, rfl⟩
      · have H := way_big (most := most) HD.out HC.out hj HA.out (by assumption) (nz_beq (by assumption)) (by assumption)
        go_ret3
        exact ⟨by rw [H]; rfl, rfl⟩
      · have H := way_ok (most := most) HD.out HC.out hj HA.out (by assumption) (nz_beq (by assumption)) (by assumption)
        go_ret3
        exact ⟨by rw [H]; rfl, rfl⟩
      · have H := way_big (most := most) HD.out HC.out hj HA.out (by assumption) (nz_j (by assumption)) (by assumption)
        go_ret3
        exact ⟨by rw [H]; rfl, rfl⟩
      · have H := way_ok (most := most) HD.out HC.out hj HA.out (by assumption) (nz_j (by assumption)) (by assumption)
        go_ret3
        exact ⟨by rw [H]; rfl, rfl⟩
      · have h9 : (j : Int) + 1 < 9 := by assumption
        go_round
        case rel => exact way_round HD.out HC.out hj HA.out HJL.out (by assumption) h9
        case measure => simp [intOf]; omega
      · have H := way_long (most := most) HD.out HC.out hj (by assumption) (by assumption)
        go_ret3
        exact ⟨by rw [H]; rfl, rfl⟩
end Go.Proofs.Ytbnppmkdhnpdfaa
namespace Go.Proofs.Ytbnppmkdhnpdfaa
open Go.RowKit
set_option linter.unusedVariables false
section
variable {l : List UInt8} {acc j : Nat} {c : UInt8} {r : List UInt8} {most E : Int}
end
end Go.Proofs.Ytbnppmkdhnpdfaa
namespace Go.Proofs.Ytbnppmkdhnpdfaa
open Go.RowKit
set_option linter.unusedVariables false
theorem extract_drop (s : ByteArray) (p : Nat) (hp : p ≤ s.size) : (s.extract p s.size).data.toList = s.data.toList.drop p := by
  rw [ByteArray.data_extract]
  show (s.data.extract p s.data.size).toList = _
  rw [Array.toList_extract, List.extract_eq_take_drop, List.take_of_length_le (by simp)]
theorem extract_size (s : ByteArray) (p : Nat) : (s.extract p s.size).size = s.size - p := by simp
set_option maxHeartbeats 400000 in
theorem rnum_broken (b : Nat) (s : ByteArray) (p e most : Int) (w : World) (h : IsR b s p e w) (he : e ≠ 0) :
    Calls Try.prog 56 #[.pointer (some ⟨b, 0, none⟩), .int .i64 most] w fun r w' => r = .returned (.int .i64 0) ∧ w' = w := by
  have h2 := h.c2
  have hb : (e != 0) = true := by simp [he]
  go_enter Try.func56, Try.ntmps56
  go_wp2
  go_ret
  exact ⟨rfl, rfl⟩
/-- firstNum at a part of the text, its three answers named. -/
theorem firstNum_at (s : ByteArray) (p : Nat) (hp : p ≤ s.size) (most n k e : Int) (hF : Nm.first (s.data.toList.drop p) most = (n, k, e)) (w : World) (hs : s.size ≤ 1099511627776) :
    Calls Try.prog 76 #[.string (s.extract p s.size), .int .i64 most] w fun r w' => r = .returned (.tuple #[.int .i64 n, .int .i64 k, .int .i64 e]) ∧ w' = w := by
  have := firstNum_any (s.extract p s.size) most w (by rw [extract_size]; omega)
  rw [extract_drop s p hp, hF] at this
  exact this
set_option maxHeartbeats 1600000 in
set_option maxRecDepth 100000 in
theorem rnum_any (b : Nat) (s : ByteArray) (p : Nat) (most n k e : Int) (w : World) (h : IsR b s (p : Int) 0 w) (hp : p ≤ s.size) (hs : s.size ≤ 1099511627776) (hF : Nm.first (s.data.toList.drop p) most = (n, k, e)) :
    Calls Try.prog 56 #[.pointer (some ⟨b, 0, none⟩), .int .i64 most] w fun r w' => r = .returned (.int .i64 n) ∧ IsR b s ((p : Int) + k) e w' ∧ Keeps (fun x => x = b) w w' := by
  have hk : 0 ≤ k ∧ k ≤ 9 := by
    obtain ⟨n', k', e', hf, _, h9, _⟩ := Nm.first_form (s.data.toList.drop p) most
    rw [hF] at hf
    simp only [Prod.mk.injEq] at hf
    omega
  have C := aside (fun w => firstNum_at s p hp most n k e hF w hs)
  have H := aside h
  have h0 := h.c0
  have h1 := h.c1
  have h2 := h.c2
  have hp0 : (0 : Int) ≤ (p : Int) := by omega
  have hp1 : (p : Int) ≤ (s.size : Int) := by omega
  have hk0 := hk.1
  have hk9 := hk.2
  have hf1 := h.f1
  clear hF hk h
  go_enter Try.func56, Try.ntmps56
  go_wp2_with fail
  go_quiet ((go_at_call 76; exact Calls.quiet_of_same (C.out _)))
  go_wp2_with fail
  refine (rfail_any b s ((p : Int) + k) 0 e _ ?hh).mono ?_
  case hh => exact (H.out.drewN _).set1 ((p : Int) + k)
  rintro r w1 ⟨rfl, hr, hkp⟩
  go_wp2
  go_ret
  refine ⟨rfl, by simpa [failOf] using hr, ?_⟩
  exact (((Keeps.refl (fun x => x = b) w).drewN _).setCell (p := ⟨b, 1, none⟩) (fun _ => rfl) _).trans hkp
end Go.Proofs.Ytbnppmkdhnpdfaa
namespace Go.Proofs.Ytbnppmkdhnpdfaa
open Go.RowKit
set_option linter.unusedVariables false
/-- The text that bytes begin with: it, how many bytes it takes with its number, what is wrong. -/
def textOf (l : List UInt8) (most : Int) : List UInt8 × Int × Int :=
  if (Nm.first l most).2.2 ≠ 0 then ([], 0, (Nm.first l most).2.2)
  else if (l.length : Int) - (Nm.first l most).2.1 < (Nm.first l most).1 then ([], 0, 10)
  else ((l.drop (Nm.first l most).2.1.toNat).take (Nm.first l most).1.toNat, (Nm.first l most).2.1 + (Nm.first l most).1, 0)
theorem extract_part (s : ByteArray) (a n : Nat) (h : a + n ≤ s.size) : s.extract a (a + n) = ⟨((s.data.toList.drop a).take n).toArray⟩ := by
  apply ByteArray.ext
  rw [ByteArray.data_extract]
  apply Array.ext'
  rw [Array.toList_extract, List.extract_eq_take_drop]
  simp
set_option maxHeartbeats 1600000 in
set_option maxRecDepth 100000 in
theorem rtext_broken (b : Nat) (s : ByteArray) (p : Nat) (e most : Int) (w : World) (h : IsR b s (p : Int) e w) (he : e ≠ 0) (hp : p ≤ s.size) (hs : s.size ≤ 1099511627776) :
    Calls Try.prog 92 #[.pointer (some ⟨b, 0, none⟩), .int .i64 most] w fun r w' => r = .returned (.string ⟨#[]⟩) ∧ IsR b s (p : Int) e w' ∧ Keeps (fun x => x = b) w w' := by
  have h0 := h.c0
  have h1 := h.c1
  have hf1 := h.f1
  have hp0 : (0 : Int) ≤ (p : Int) := by omega
  have hp1 : (p : Int) ≤ (s.size : Int) := by omega
  have H := aside h
  clear h
  go_enter Try.func92, Try.ntmps92
  go_wp2_with fail
  refine (rnum_broken b s (p : Int) e most _ H.out he).mono ?_
  rintro r w1 ⟨rfl, rfl⟩
  go_wp2_with fail
  refine (rleft_any b s (p : Int) e _ H.out hp0 hp1 hs).mono ?_
  rintro r w2 ⟨rfl, nq, rfl⟩
  go_wp2_with fail
  go_quiet (fail)
  go_wp2
  go_ret
  exact ⟨rfl, H.out.set1 (p : Int), ((Keeps.refl (fun x => x = b) w1).setCell (p := ⟨b, 1, none⟩) (fun _ => rfl) _).trans ⟨rfl, rfl, rfl, Nat.le_refl _, fun _ _ _ => rfl⟩⟩
/-- What bytes begin with is no number, or one that is too big. -/
theorem textOf_bad {l : List UInt8} {most e : Int} (h : Nm.first l most = (0, 0, e)) (he : e ≠ 0) : textOf l most = ([], 0, e) := by
  unfold textOf; rw [h]; simp [he]
theorem textOf_short {l : List UInt8} {most n k : Int} (h : Nm.first l most = (n, k, 0)) (hn : (l.length : Int) - k < n) : textOf l most = ([], 0, 10) := by
  unfold textOf; rw [h]; simp [hn]
theorem textOf_ok {l : List UInt8} {most n k : Int} (h : Nm.first l most = (n, k, 0)) (hn : ¬ (l.length : Int) - k < n) : textOf l most = ((l.drop k.toNat).take n.toNat, k + n, 0) := by
  unfold textOf; rw [h]; simp only [ne_eq, not_true_eq_false, if_false]; rw [if_neg hn]
set_option maxHeartbeats 1600000 in
set_option maxRecDepth 100000 in
theorem rtext_bad (b : Nat) (s : ByteArray) (p : Nat) (most e : Int) (w : World) (h : IsR b s (p : Int) 0 w) (hp : p ≤ s.size) (hs : s.size ≤ 1099511627776) (hF : Nm.first (s.data.toList.drop p) most = (0, 0, e)) :
    Calls Try.prog 92 #[.pointer (some ⟨b, 0, none⟩), .int .i64 most] w fun r w' => r = .returned (.string ⟨#[]⟩) ∧ IsR b s (p : Int) e w' ∧ Keeps (fun x => x = b) w w' := by
  have h1 := h.c1
  have hp0 : (0 : Int) ≤ (p : Int) := by omega
  have hp1 : (p : Int) ≤ (s.size : Int) := by omega
  have H := aside h
  have HF := aside hF
  clear h hF
  go_enter Try.func92, Try.ntmps92
  go_wp2_with fail
  refine (rnum_any b s p most 0 0 e _ H.out hp hs HF.out).mono ?_
  rintro r w1 ⟨rfl, hr, hk⟩
  rw [show (p : Int) + 0 = (p : Int) from by omega] at hr
  have h10 := hr.c0
  have h11 := hr.c1
  have hf11 := hr.f1
  have HR := aside hr
  clear hr
  go_wp2_with fail
  refine (rleft_any b s (p : Int) e _ HR.out hp0 hp1 hs).mono ?_
  rintro r w2 ⟨rfl, nq, rfl⟩
  go_wp2_with fail
  go_quiet (fail)
  go_wp2
  go_ret
  exact ⟨rfl, HR.out.set1 (p : Int), hk.trans (((Keeps.refl (fun x => x = b) w1).setCell (p := ⟨b, 1, none⟩) (fun _ => rfl) _).trans ⟨rfl, rfl, rfl, Nat.le_refl _, fun _ _ _ => rfl⟩)⟩
set_option maxHeartbeats 1600000 in
set_option maxRecDepth 100000 in
theorem rtext_short (b : Nat) (s : ByteArray) (p : Nat) (most : Int) (n k : Nat) (w : World) (h : IsR b s (p : Int) 0 w) (hp : p ≤ s.size) (hs : s.size ≤ 1099511627776) (hF : Nm.first (s.data.toList.drop p) most = ((n : Int), (k : Int), 0)) (hpk : p + k ≤ s.size) (hn : (s.size : Int) - ((p : Int) + (k : Int)) < (n : Int)) :
    Calls Try.prog 92 #[.pointer (some ⟨b, 0, none⟩), .int .i64 most] w fun r w' => r = .returned (.string ⟨#[]⟩) ∧ IsR b s (p : Int) 10 w' ∧ Keeps (fun x => x = b) w w' := by
  have h1 := h.c1
  have hp0 : (0 : Int) ≤ (p : Int) + (k : Int) := by omega
  have hp1 : (p : Int) + (k : Int) ≤ (s.size : Int) := by omega
  have H := aside h
  have HF := aside hF
  clear h hF
  go_enter Try.func92, Try.ntmps92
  go_wp2_with fail
  refine (rnum_any b s p most n k 0 _ H.out hp hs HF.out).mono ?_
  rintro r w1 ⟨rfl, hr, hk⟩
  have h11 := hr.c1
  have hf11 := hr.f1
  have HR := aside hr
  clear hr
  go_wp2_with fail
  refine (rleft_any b s ((p : Int) + (k : Int)) 0 _ HR.out hp0 hp1 hs).mono ?_
  rintro r w2 ⟨rfl, nq, rfl⟩
  go_wp2_with fail
  refine (rfail_any b s (p : Int) 0 10 _ ?hh).mono ?_
  case hh => exact HR.out.set1 (p : Int)
  rintro r w3 ⟨rfl, hr3, hk3⟩
  go_wp2
  go_ret
  refine ⟨rfl, by simpa [failOf] using hr3, hk.trans (Keeps.trans ?_ hk3)⟩
  exact (((Keeps.refl (fun x => x = b) w1).drewN _).setCell (p := ⟨b, 1, none⟩) (fun _ => rfl) _)
set_option maxHeartbeats 1600000 in
set_option maxRecDepth 100000 in
theorem rtext_ok (b : Nat) (s : ByteArray) (p : Nat) (most : Int) (n k : Nat) (w : World) (h : IsR b s (p : Int) 0 w) (hp : p ≤ s.size) (hs : s.size ≤ 1099511627776) (hF : Nm.first (s.data.toList.drop p) most = ((n : Int), (k : Int), 0)) (hpk : p + k + n ≤ s.size) :
    Calls Try.prog 92 #[.pointer (some ⟨b, 0, none⟩), .int .i64 most] w fun r w' => r = .returned (.string ⟨((s.data.toList.drop (p + k)).take n).toArray⟩) ∧ IsR b s ((p : Int) + (k : Int) + (n : Int)) 0 w' ∧ Keeps (fun x => x = b) w w' := by
  have h1 := h.c1
  have hp0 : (0 : Int) ≤ (p : Int) + (k : Int) := by omega
  have hp1 : (p : Int) + (k : Int) ≤ (s.size : Int) := by omega
  have hp2 : (p : Int) + (k : Int) + (n : Int) ≤ (s.size : Int) := by omega
  have hn : ¬ (s.size : Int) - ((p : Int) + (k : Int)) < (n : Int) := by omega
  have HX := aside (extract_part s (p + k) n (by omega))
  have H := aside h
  have HF := aside hF
  clear h hF
  go_enter Try.func92, Try.ntmps92
  go_wp2_with fail
  refine (rnum_any b s p most n k 0 _ H.out hp hs HF.out).mono ?_
  rintro r w1 ⟨rfl, hr, hk⟩
  have h10 := hr.c0
  have h11 := hr.c1
  have hf11 := hr.f1
  have HR := aside hr
  clear hr
  go_wp2_with fail
  refine (rleft_any b s ((p : Int) + (k : Int)) 0 _ HR.out hp0 hp1 hs).mono ?_
  rintro r w2 ⟨rfl, nq, rfl⟩
  go_wp2_with fail
  go_quiet (fail)
  go_wp2
  go_ret
  refine ⟨?_, HR.out.set1 _, hk.trans (((Keeps.refl (fun x => x = b) w1).setCell (p := ⟨b, 1, none⟩) (fun _ => rfl) _).trans ⟨rfl, rfl, rfl, Nat.le_refl _, fun _ _ _ => rfl⟩)⟩
  show Ending.returned (Value.string (s.extract (p + k) (p + k + n))) = _
  rw [HX.out]
end Go.Proofs.Ytbnppmkdhnpdfaa
namespace Go.Proofs.Ytbnppmkdhnpdfaa
open Go.RowKit
set_option linter.unusedVariables false
/-- Bytes as one number, the highest first. -/
def valB (l : List UInt8) : Nat := l.foldl (fun a c => a * 256 + c.toNat) 0
theorem valB_snoc (l : List UInt8) (c : UInt8) : valB (l ++ [c]) = valB l * 256 + c.toNat := by simp [valB]
theorem valB_lt (l : List UInt8) : valB l < 256 ^ l.length := by
  suffices h : ∀ (l : List UInt8) (a n : Nat), a < 256 ^ n → l.foldl (fun a c => a * 256 + c.toNat) a < 256 ^ (n + l.length) by
    simpa [valB] using h l 0 0 (by simp)
  intro l
  induction l with
  | nil => intro a n h; simpa using h
  | cons c r ih =>
    intro a n h
    simp only [List.foldl_cons, List.length_cons]
    have := ih (a * 256 + c.toNat) (n + 1) (by have := c.toNat_lt; rw [Nat.pow_succ]; omega)
    rwa [show n + (r.length + 1) = n + 1 + r.length from by omega]
set_option maxHeartbeats 1600000 in
set_option maxRecDepth 100000 in
/-- Too few bytes are left: broken before or now. -/
theorem rword_short (b : Nat) (s : ByteArray) (p : Nat) (e : Int) (w : World) (h : IsR b s (p : Int) e w) (hp : p ≤ s.size) (h8 : s.size < p + 8) (hs : s.size ≤ 1099511627776) :
    Calls Try.prog 94 #[.pointer (some ⟨b, 0, none⟩)] w fun r w' => r = .returned (.int .u64 0) ∧ IsR b s (p : Int) (failOf e 10) w' ∧ Keeps (fun x => x = b) w w' := by
  have H := aside h
  have hl : (s.size : Int) - (p : Int) < 8 := by omega
  have hne : (failOf e 10 != 0) = true := by
    unfold failOf
    split
    · rfl
    · rw [bne_iff_ne]; assumption
  clear h
  go_enter Try.func94, Try.ntmps94
  go_wp2_with fail
  refine (rleft_any b s (p : Int) e _ H.out (by omega) (by omega) hs).mono ?_
  rintro r w1 ⟨rfl, nq, rfl⟩
  go_wp2_with fail
  refine (rfail_any b s (p : Int) e 10 _ (by exact H.out)).mono ?_
  rintro r w2 ⟨rfl, hr, hk⟩
  have h2 := hr.c2
  have HR := aside hr
  clear hr
  go_wp2
  go_ret
  exact ⟨rfl, HR.out, ((Keeps.refl (fun x => x = b) w).drewN _).trans hk⟩
set_option maxHeartbeats 1600000 in
set_option maxRecDepth 100000 in
/-- Broken before, with bytes enough. -/
theorem rword_broken (b : Nat) (s : ByteArray) (p : Nat) (e : Int) (w : World) (h : IsR b s (p : Int) e w) (he : e ≠ 0) (h8 : p + 8 ≤ s.size) (hs : s.size ≤ 1099511627776) :
    Calls Try.prog 94 #[.pointer (some ⟨b, 0, none⟩)] w fun r w' => r = .returned (.int .u64 0) ∧ IsR b s (p : Int) e w' ∧ Keeps (fun x => x = b) w w' := by
  have H := aside h
  have hl : ¬ (s.size : Int) - (p : Int) < 8 := by omega
  have hne : (e != 0) = true := by rw [bne_iff_ne]; exact he
  have h2 := h.c2
  clear h he
  go_enter Try.func94, Try.ntmps94
  go_wp2_with fail
  refine (rleft_any b s (p : Int) e _ H.out (by omega) (by omega) hs).mono ?_
  rintro r w1 ⟨rfl, nq, rfl⟩
  go_wp2
  go_ret
  exact ⟨rfl, H.out, ⟨rfl, rfl, rfl, Nat.le_refl _, fun _ _ _ => rfl⟩⟩
def RWordRel (b : Nat) (s : ByteArray) (p : Nat) (w : World) (u i : Value) (wr : World) : Prop :=
  ∃ j acc : Nat, u = .int .u64 (acc : Int) ∧ i = .int .i64 (j : Int) ∧ j ≤ 8 ∧ acc = valB ((s.data.toList.drop p).take j) ∧ IsR b s ((p : Int) + (j : Int)) 0 wr ∧ Keeps (fun x => x = b) w wr
set_option maxHeartbeats 1600000 in
set_option maxRecDepth 100000 in
theorem rword_ok (b : Nat) (s : ByteArray) (p : Nat) (w : World) (h : IsR b s (p : Int) 0 w) (h8 : p + 8 ≤ s.size) (hs : s.size ≤ 1099511627776) :
    Calls Try.prog 94 #[.pointer (some ⟨b, 0, none⟩)] w fun r w' => r = .returned (.int .u64 (valB ((s.data.toList.drop p).take 8) : Int)) ∧ IsR b s ((p : Int) + 8) 0 w' ∧ Keeps (fun x => x = b) w w' := by
  have H := aside h
  have hl : ¬ (s.size : Int) - (p : Int) < 8 := by omega
  have h2 := h.c2
  clear h
  go_enter Try.func94, Try.ntmps94
  go_wp2_with fail
  refine (rleft_any b s (p : Int) 0 _ H.out (by omega) (by omega) hs).mono ?_
  rintro r w1 ⟨rfl, nq, rfl⟩
  go_wp2
  go_loopw [3, 14] (fun u i wr => RWordRel b s p w u i wr) (fun _ i _ => 8 - (intOf i).toNat)
  case atStart => exact ⟨0, 0, rfl, rfl, by omega, rfl, by rw [show (p : Int) + ((0 : Nat) : Int) = (p : Int) from by omega]; exact H.out, ⟨rfl, rfl, rfl, Nat.le_refl _, fun _ _ _ => rfl⟩⟩
  case round =>
    obtain ⟨j, acc, rfl, rfl, hj8, hacc, hr, hk⟩ := hrel
    have hj8' : (j : Int) ≤ 8 := by omega
    by_cases hlt : (j : Int) < 8
    · have hpj : p + j < s.size := by omega
      have hpj' : (p : Int) + (j : Int) < (s.size : Int) := by omega
      have hix := idx_str' s (p + j) hpj ((p : Int) + (j : Int)) (by omega)
      have hdj : (s.data.toList.drop p).take (j + 1) = (s.data.toList.drop p).take j ++ [s[p + j]] := by
        rw [List.take_succ_eq_append_getElem (by simp; omega)]
        simp
        rfl
      obtain ⟨c, hc⟩ : ∃ c, c = s[p + j] := ⟨_, rfl⟩
      rw [← hc] at hix hdj
      clear hc
      have hb := c.toNat_lt
      have hb' : (c.toNat : Int) < 256 := by omega
      have hva := valB_lt ((s.data.toList.drop p).take j)
      have hlj : ((s.data.toList.drop p).take j).length ≤ j := List.length_take_le _ _
      have hacc56 : acc < 72057594037927936 := by
        rw [hacc]
        have h7 : 256 ^ ((s.data.toList.drop p).take j).length ≤ 256 ^ 7 := Nat.pow_le_pow_right (by omega) (by omega)
        have h77 : 256 ^ 7 = 72057594037927936 := by decide
        omega
      have hacc' : (acc : Int) < 72057594037927936 := by omega
      have HJ := aside hdj
      have HA := aside hacc
      have HR := aside hr
      have h0 := hr.c0
      have h1 := hr.c1
      have hf1 := hr.f1
      clear hdj hacc hr hva hlj hacc56 hb hpj hj8 H
      go_wp2_with fail
      go_quiet (fail)
      go_wp2
      go_roundw
      case rel => exact ⟨j + 1, acc * 256 + c.toNat, by go_num, by go_num, by omega, by rw [HJ.out, valB_snoc, ← HA.out], by rw [show (p : Int) + ((j + 1 : Nat) : Int) = (p : Int) + (j : Int) + 1 from by omega]; exact HR.out.set1 _, hk.trans (((Keeps.refl (fun x => x = b) wr).drewN _).setCell (p := ⟨b, 1, none⟩) (fun _ => rfl) _)⟩
      case measure => simp [intOf]; omega
    · have hj : j = 8 := by omega
      subst hj
      have HA := aside hacc
      have HR := aside hr
      clear hacc hr
      go_wp2
      go_ret
      exact ⟨by rw [← HA.out]; rfl, HR.out, hk⟩
end Go.Proofs.Ytbnppmkdhnpdfaa
namespace Go.Proofs.Ytbnppmkdhnpdfaa
open Go.RowKit
set_option linter.unusedVariables false
theorem first_small {l : List UInt8} {most n k e : Int} (hF : Nm.first l most = (n, k, e)) : 0 ≤ k ∧ k ≤ 9 ∧ k ≤ (l.length : Int) ∧ 0 ≤ n ∧ n < 9223372036854775808 ∧ (e ≠ 0 → n = 0 ∧ k = 0) := by
  obtain ⟨n', k', e', hf, h1, h9, _, _, h2, h3, _⟩ := Nm.first_form l most
  rw [hF] at hf
  simp only [Prod.mk.injEq] at hf
  obtain ⟨rfl, rfl, rfl⟩ := hf
  refine ⟨by omega, by omega, by omega, by omega, h3, fun he => ?_⟩
  have := h2 he
  omega
end Go.Proofs.Ytbnppmkdhnpdfaa
namespace Go.Proofs.Ytbnppmkdhnpdfaa
open Go.RowKit
set_option linter.unusedVariables false
end Go.Proofs.Ytbnppmkdhnpdfaa
namespace Go.Proofs.Ytbnppmkdhnpdfaa
open Go.RowKit
set_option linter.unusedVariables false
set_option maxHeartbeats 1600000 in
set_option maxRecDepth 100000 in
/-- Nothing is left: broken before or now. -/
theorem rflag_end (b : Nat) (s : ByteArray) (p : Nat) (e : Int) (w : World) (h : IsR b s (p : Int) e w) (hp : p = s.size) (hs : s.size ≤ 1099511627776) :
    Calls Try.prog 93 #[.pointer (some ⟨b, 0, none⟩)] w fun r w' => r = .returned (.bool false) ∧ IsR b s (p : Int) (failOf e 10) w' ∧ Keeps (fun x => x = b) w w' := by
  have H := aside h
  have hl : (s.size : Int) - (p : Int) = 0 := by omega
  have hne : (failOf e 10 != 0) = true := by
    unfold failOf
    split
    · rfl
    · rw [bne_iff_ne]; assumption
  have HL := aside hl
  clear h hl
  go_enter Try.func93, Try.ntmps93
  go_wp2_with fail
  refine (rleft_any b s (p : Int) e _ H.out (by omega) (by omega) hs).mono ?_
  rintro r w1 ⟨rfl, nq, rfl⟩
  rw [HL.out]
  go_wp2_with fail
  refine (rfail_any b s (p : Int) e 10 _ (by exact H.out)).mono ?_
  rintro r w2 ⟨rfl, hr, hk⟩
  have h2 := hr.c2
  have HR := aside hr
  clear hr
  go_wp2
  go_ret
  exact ⟨rfl, HR.out, ((Keeps.refl (fun x => x = b) w).drewN _).trans hk⟩
set_option maxHeartbeats 1600000 in
set_option maxRecDepth 100000 in
/-- A byte above 1. -/
theorem rflag_form (b : Nat) (s : ByteArray) (p : Nat) (e : Int) (c : UInt8) (w : World) (h : IsR b s (p : Int) e w) (hp : p < s.size) (hc : s[p] = c) (h1 : 1 < c.toNat) (hs : s.size ≤ 1099511627776) :
    Calls Try.prog 93 #[.pointer (some ⟨b, 0, none⟩)] w fun r w' => r = .returned (.bool false) ∧ IsR b s (p : Int) (failOf e 11) w' ∧ Keeps (fun x => x = b) w w' := by
  have H := aside h
  have hix := idx_str' s p hp (p : Int) rfl
  rw [hc] at hix
  have hp0 : (0 : Int) ≤ (p : Int) := by omega
  have hp1 : (p : Int) < (s.size : Int) := by omega
  have hl : ((s.size : Int) - (p : Int) == 0) = false := by rw [beq_eq_false_iff_ne]; omega
  have g1 : (1 : Int) < (c.toNat : Int) := by omega
  have hne : (failOf e 11 != 0) = true := by
    unfold failOf
    split
    · rfl
    · rw [bne_iff_ne]; assumption
  have h0 := h.c0
  have h1' := h.c1
  clear h hc h1 hp
  go_enter Try.func93, Try.ntmps93
  go_wp2_with fail
  refine (rleft_any b s (p : Int) e _ H.out hp0 (by omega) hs).mono ?_
  rintro r w1 ⟨rfl, nq, rfl⟩
  go_wp2_with fail
  go_quiet (fail)
  go_wp2_with fail
  refine (rfail_any b s (p : Int) e 11 _ (by exact H.out)).mono ?_
  rintro r w2 ⟨rfl, hr, hk⟩
  have h2 := hr.c2
  have HR := aside hr
  clear hr
  go_wp2
  go_ret
  exact ⟨rfl, HR.out, ((Keeps.refl (fun x => x = b) w).drewN _).trans hk⟩
set_option maxHeartbeats 1600000 in
set_option maxRecDepth 100000 in
/-- Broken before, a byte that may be. -/
theorem rflag_broken (b : Nat) (s : ByteArray) (p : Nat) (e : Int) (c : UInt8) (w : World) (h : IsR b s (p : Int) e w) (he : e ≠ 0) (hp : p < s.size) (hc : s[p] = c) (h1 : ¬ 1 < c.toNat) (hs : s.size ≤ 1099511627776) :
    Calls Try.prog 93 #[.pointer (some ⟨b, 0, none⟩)] w fun r w' => r = .returned (.bool false) ∧ IsR b s (p : Int) e w' ∧ Keeps (fun x => x = b) w w' := by
  have H := aside h
  have hix := idx_str' s p hp (p : Int) rfl
  rw [hc] at hix
  have hp0 : (0 : Int) ≤ (p : Int) := by omega
  have hp1 : (p : Int) < (s.size : Int) := by omega
  have hl : ((s.size : Int) - (p : Int) == 0) = false := by rw [beq_eq_false_iff_ne]; omega
  have g1 : (c.toNat : Int) ≤ 1 := by omega
  have hne : (e != 0) = true := by rw [bne_iff_ne]; exact he
  have h0 := h.c0
  have h1' := h.c1
  have h2 := h.c2
  clear h hc h1 hp he
  go_enter Try.func93, Try.ntmps93
  go_wp2_with fail
  refine (rleft_any b s (p : Int) e _ H.out hp0 (by omega) hs).mono ?_
  rintro r w1 ⟨rfl, nq, rfl⟩
  go_wp2_with fail
  go_quiet (fail)
  go_wp2
  go_ret
  exact ⟨rfl, H.out, ⟨rfl, rfl, rfl, Nat.le_refl _, fun _ _ _ => rfl⟩⟩
set_option maxHeartbeats 1600000 in
set_option maxRecDepth 100000 in
theorem rflag_ok (b : Nat) (s : ByteArray) (p : Nat) (c : UInt8) (w : World) (h : IsR b s (p : Int) 0 w) (hp : p < s.size) (hc : s[p] = c) (h1 : ¬ 1 < c.toNat) (hs : s.size ≤ 1099511627776) :
    Calls Try.prog 93 #[.pointer (some ⟨b, 0, none⟩)] w fun r w' => r = .returned (.bool ((c.toNat : Int) == 1)) ∧ IsR b s ((p : Int) + 1) 0 w' ∧ Keeps (fun x => x = b) w w' := by
  have H := aside h
  have hix := idx_str' s p hp (p : Int) rfl
  rw [hc] at hix
  have hp0 : (0 : Int) ≤ (p : Int) := by omega
  have hp1 : (p : Int) < (s.size : Int) := by omega
  have hl : ((s.size : Int) - (p : Int) == 0) = false := by rw [beq_eq_false_iff_ne]; omega
  have g1 : (c.toNat : Int) ≤ 1 := by omega
  have h0 := h.c0
  have h1' := h.c1
  have h2 := h.c2
  have hf1 := h.f1
  clear h hc h1 hp
  go_enter Try.func93, Try.ntmps93
  go_wp2_with fail
  refine (rleft_any b s (p : Int) 0 _ H.out hp0 (by omega) hs).mono ?_
  rintro r w1 ⟨rfl, nq, rfl⟩
  go_wp2_with fail
  go_quiet (fail)
  go_wp2
  go_quiet (fail)
  go_wp2
  go_ret
  exact ⟨rfl, H.out.set1 _, ((Keeps.refl (fun x => x = b) w).setCell (p := ⟨b, 1, none⟩) (fun _ => rfl) _).trans ⟨rfl, rfl, rfl, Nat.le_refl _, fun _ _ _ => rfl⟩⟩
end Go.Proofs.Ytbnppmkdhnpdfaa
namespace Go.Proofs.Ytbnppmkdhnpdfaa
open Go.RowKit
set_option linter.unusedVariables false
def numSt (l : List UInt8) (p : Nat) (e most : Int) : Int × Nat × Int :=
  if e ≠ 0 then (0, p, e) else ((Nm.first (l.drop p) most).1, p + (Nm.first (l.drop p) most).2.1.toNat, (Nm.first (l.drop p) most).2.2)
def textSt (l : List UInt8) (p : Nat) (e most : Int) : List UInt8 × Nat × Int :=
  if e ≠ 0 then ([], p, e) else ((textOf (l.drop p) most).1, p + (textOf (l.drop p) most).2.1.toNat, (textOf (l.drop p) most).2.2)
def wordSt (l : List UInt8) (p : Nat) (e : Int) : Nat × Nat × Int :=
  if e ≠ 0 then (0, p, e) else if l.length < p + 8 then (0, p, 10) else (valB ((l.drop p).take 8), p + 8, 0)
def flagSt (l : List UInt8) (p : Nat) (e : Int) : Bool × Nat × Int :=
  if e ≠ 0 then (false, p, e) else if h : p < l.length then (if 1 < l[p].toNat then (false, p, 11) else (((l[p].toNat : Int) == 1), p + 1, 0)) else (false, p, 10)
/-- The two readers at once: the same bytes, place and error, no memory shared. -/
structure TwoR (B br bd : Nat) (s : ByteArray) (v : Value) (l : List UInt8) (p : Nat) (e : Int) (w : World) : Prop where
  code : IsR br s (p : Int) e w
  doc : IsRR B bd v l (p : Int) e w
  text : s.data.toList = l
  ne : br ≠ bd
  vr : v.ownBlock ≠ some br
  le : p ≤ l.length
  small : l.length ≤ 1099511627776
theorem TwoR.size {B br bd : Nat} {s : ByteArray} {v : Value} {l : List UInt8} {p : Nat} {e : Int} {w : World} (h : TwoR B br bd s v l p e w) : s.size = l.length := by
  rw [← h.text]; show s.data.size = s.data.toList.length; simp
/-- What the document's reader is in the world that the code's has left. -/
theorem TwoR.later {B br bd : Nat} {s : ByteArray} {v : Value} {l : List UInt8} {p : Nat} {e : Int} {w w1 : World} (h : TwoR B br bd s v l p e w) (k1 : Keeps (fun x => x = br) w w1) : IsRR B bd v l (p : Int) e w1 :=
  h.doc.keep k1 (fun x => h.ne x.symm) (fun j hj x => h.vr (by rw [hj, x]))
section
variable {B br bd : Nat} {s : ByteArray} {v : Value} {l : List UInt8} {p : Nat} {e : Int}
theorem first_parts (l : List UInt8) (most : Int) : 0 ≤ (Nm.first l most).2.1 ∧ (Nm.first l most).2.1 ≤ 9 ∧ (Nm.first l most).2.1 ≤ (l.length : Int) ∧ 0 ≤ (Nm.first l most).1 ∧ (Nm.first l most).1 < 9223372036854775808 ∧ ((Nm.first l most).2.2 ≠ 0 → (Nm.first l most).1 = 0 ∧ (Nm.first l most).2.1 = 0) :=
  first_small (show Nm.first l most = ((Nm.first l most).1, (Nm.first l most).2.1, (Nm.first l most).2.2) from rfl)
theorem numSt_le (l : List UInt8) (p : Nat) (e most : Int) (hp : p ≤ l.length) : (numSt l p e most).2.1 ≤ l.length := by
  unfold numSt
  split
  · exact hp
  · have := first_parts (l.drop p) most
    rw [List.length_drop] at this
    simp only
    omega
/-- The three ways of a text. -/
theorem textSt_cases (l : List UInt8) (p : Nat) (most : Int) (hp : p ≤ l.length) :
    (∃ e, e ≠ 0 ∧ Nm.first (l.drop p) most = (0, 0, e) ∧ textSt l p 0 most = ([], p, e)) ∨
    (∃ n k : Nat, Nm.first (l.drop p) most = ((n : Int), (k : Int), 0) ∧ 1 ≤ k ∧ p + k ≤ l.length ∧ (l.length : Int) - ((p : Int) + (k : Int)) < (n : Int) ∧ textSt l p 0 most = ([], p, 10)) ∨
    (∃ n k : Nat, Nm.first (l.drop p) most = ((n : Int), (k : Int), 0) ∧ 1 ≤ k ∧ p + k + n ≤ l.length ∧ textSt l p 0 most = ((l.drop (p + k)).take n, p + k + n, 0)) := by
  obtain ⟨n, k, e, hF, hkl, hk9, he0, he12, hbad, hn63, hk1⟩ := Nm.first_form (l.drop p) most
  rw [List.length_drop] at hkl
  by_cases he : e = 0
  · subst he
    right
    by_cases hn : (l.length : Int) - ((p : Int) + (k : Int)) < (n : Int)
    · left
      refine ⟨n, k, hF, hk1 rfl, by omega, hn, ?_⟩
      have := textOf_short hF (by rw [List.length_drop]; omega)
      simp [textSt, this]
    · right
      refine ⟨n, k, hF, hk1 rfl, by omega, ?_⟩
      have := textOf_ok hF (by rw [List.length_drop]; omega)
      simp only [textSt, this, ne_eq, not_true_eq_false, if_false, List.drop_drop]
      rw [show ((k : Int) + (n : Int)).toNat = k + n from by omega, show ((k : Int)).toNat = k from by omega, show ((n : Int)).toNat = n from by omega, Nat.add_assoc]
  · left
    obtain ⟨rfl, rfl⟩ := hbad he
    refine ⟨e, he, hF, ?_⟩
    have := textOf_bad hF he
    simp [textSt, this]
theorem textSt_le (l : List UInt8) (p : Nat) (e most : Int) (hp : p ≤ l.length) : (textSt l p e most).2.1 ≤ l.length := by
  by_cases he : e = 0
  · subst he
    rcases textSt_cases l p most hp with ⟨e, _, _, h⟩ | ⟨n, k, _, _, _, _, h⟩ | ⟨n, k, _, _, h3, h⟩ <;> rw [h] <;> simp only <;> omega
  · simp [textSt, he, hp]
theorem wordSt_le (l : List UInt8) (p : Nat) (e : Int) (hp : p ≤ l.length) : (wordSt l p e).2.1 ≤ l.length := by
  unfold wordSt
  split
  · exact hp
  · split <;> simp only <;> omega
theorem flagSt_le (l : List UInt8) (p : Nat) (e : Int) (hp : p ≤ l.length) : (flagSt l p e).2.1 ≤ l.length := by
  unfold flagSt
  split
  · exact hp
  · split
    · split <;> simp only <;> omega
    · exact hp
end
end Go.Proofs.Ytbnppmkdhnpdfaa

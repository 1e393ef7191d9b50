/-
  Bytes that a call owns: what they are as text, and small laws on rows of bytes that the walks of this seat share.
  Memory that a call has made: which blocks a step may turn (Keeps), a writer in its block (IsW), and what an append to it leaves.
  Plain mathematics: the order of keys, trees of rows, what Put makes of them.
  Memory of trees: blocks of one type that stay, a counter of joins, summaries.
  Small facts on blocks of two cells (sums), on frames, and entries as plain data.
  The table of lanes in memory; one word mixed into both lanes.
  Arguments of these laws, from their reading to plain numbers, texts, sums and entries; the table of lanes, from the row's list.
  Versions: which may be, how they compare, which is the next; the code's calls and the document's own, each as a plain function.
  Entries: which may be, which is newer, the better of two; the next version; the code's calls and the document's own.
-/
import Derived.Test.YtlbkcndmljlnmaaDoorProg
import Derived.WalkKit
import Derived.WalkSpells
import Derived.WalkLawsBesides
import Derived.OwnWalk
import Derived.Lib.UnsafeStr
import Derived.Laws.IdiomStrings
import Derived.Deep.AppendLies
import Derived.KernelRfl
import Derived.Below
import Derived.Laws.Rows
import Derived.Test.YtlbkcndmljlnmaaDoorRows
import Derived.ProofKit
import Derived.OpenShut
import Derived.ShutString
import Derived.SizedLaws
import Derived.HandedShaped
import Derived.Lib.SmallJoins
import Derived.Deep.Slices
import Derived.Deep.Strs
import Derived.Deep.CondSized
import Derived.ChangeOld
import Derived.LaidLaws
import Derived.FnData
namespace Go.Proofs.YtlbkcndmljlnmaaDoor
open Go.RowKit
theorem info8 : (Tryd.prog.info? 5).map (fun i => (i.zero, i.size, i.bytes)) = some (some (.int .u8 0), 1, 1) := by kernel_rfl
/-- 'string(b)' of a row that the call owns. -/
theorem conv_own (w : World) (B : Nat) (v : Value) (l : List UInt8) (hown : w.ownsRow B 5 1 v l.length (Lib.byteCells l)) :
    (convert 31 9 v).run Tryd.prog w = .ok (.string ⟨l.toArray⟩) w := by
  rcases hown.2 with ⟨rfl, h0⟩ | ⟨g, cap, cur, rfl, -, -, -, -, -, -⟩
  · have hl : l = [] := List.length_eq_zero_iff.1 h0
    subst hl
    rw [run_convert_bytes_string w 31 9 5 none 0 0 Tryd.underlying31 Tryd.underlying5 Tryd.underlying9]
    rfl
  · exact run_convert_bytes_back (P := Tryd.prog) w 31 9 5 ⟨g, 0, none⟩ cap l Tryd.underlying31 Tryd.underlying5 Tryd.underlying9 (fun j hj => hown.cells (g := g) rfl j _ (by simp [Lib.byteCells, hj]))
/-- A fact put aside: the walk does not look behind the name. -/
theorem aside {p : Prop} (h : p) : Hid p := h
theorem idx_str' (s : ByteArray) (k : Nat) (hk : k < s.size) (i : Int) (h : i = (k : Int)) (w : World) :
    (Instr.index 9 (.string s) (.int .i64 i)).run Tryd.prog w = .ok (.int .u8 (s[k].toNat : Int)) w := by
  subst h
  rw [run_index_string w 9 _ .i64 _ Tryd.underlying9, dif_pos ⟨by omega, by omega⟩]
  simp only [Int.toNat_natCast]
theorem drop_one (s : ByteArray) (k : Nat) (h : k < s.size) : s.data.toList.drop k = s[k] :: s.data.toList.drop (k + 1) := by
  rw [List.drop_eq_getElem_cons (show k < s.data.toList.length from by simpa using h)]; rfl
end Go.Proofs.YtlbkcndmljlnmaaDoor
namespace Go.Proofs.YtlbkcndmljlnmaaDoor
open Go.RowKit
/-- Of the blocks that were there only those in S may have turned; streams as they were; no block has gone. -/
structure Keeps (S : Nat → Prop) (w w' : World) : Prop where
  os : w'.os = w.os
  tape : w'.tape = w.tape
  output : w'.output = w.output
  size : w.heap.size ≤ w'.heap.size
  block : ∀ k, k < w.heap.size → ¬ S k → w'.heap[k]? = w.heap[k]?
theorem Keeps.refl (S : Nat → Prop) (w : World) : Keeps S w w := ⟨rfl, rfl, rfl, Nat.le_refl _, fun _ _ _ => rfl⟩
theorem Keeps.trans {S : Nat → Prop} {a b c : World} (h : Keeps S a b) (k : Keeps S b c) : Keeps S a c :=
  ⟨k.os.trans h.os, k.tape.trans h.tape, k.output.trans h.output, Nat.le_trans h.size k.size, fun i hi hs => (k.block i (Nat.lt_of_lt_of_le hi h.size) hs).trans (h.block i hi hs)⟩
theorem Keeps.mono {S S' : Nat → Prop} {w w' : World} (h : Keeps S w w') (hS : ∀ k, k < w.heap.size → S k → S' k) : Keeps S' w w' :=
  ⟨h.os, h.tape, h.output, h.size, fun k hk hs => h.block k hk (fun s => hs (hS k hk s))⟩
theorem Keeps.drew {S : Nat → Prop} {a w : World} (h : Keeps S a w) : Keeps S a w.drew := ⟨h.os, h.tape, h.output, h.size, h.block⟩
theorem Keeps.drewN {S : Nat → Prop} {a w : World} (h : Keeps S a w) (n : Nat) : Keeps S a (w.drewN n) := ⟨h.os, h.tape, h.output, h.size, h.block⟩
theorem Keeps.alloc {S : Nat → Prop} {a w : World} (h : Keeps S a w) (o : Obj) : Keeps S a (w.alloc o) :=
  h.trans ⟨rfl, rfl, rfl, by simp, fun k hk _ => Below.heap_alloc _ _ _ hk⟩
theorem Keeps.setCell {S : Nat → Prop} {a w : World} (h : Keeps S a w) {p : Addr} (hp : p.block < a.heap.size → S p.block) (u : Value) : Keeps S a (w.setCell p u) :=
  ⟨h.os, h.tape, h.output, Nat.le_trans h.size (by simp [World.setCell]), fun k hk hs => by
    have hne : k ≠ p.block := fun e => by subst e; exact hs (hp hk)
    rw [Below.heap_setCell _ _ _ _ hne]
    exact h.block k hk hs⟩
theorem Keeps.grown {S : Nat → Prop} {a w w' : World} {row : Option Nat} (h : Keeps S a w) (hg : w.grownBy w' row) (hr : ∀ k, row = some k → k < a.heap.size → S k) : Keeps S a w' :=
  ⟨hg.os.trans h.os, hg.tape.trans h.tape, hg.output.trans h.output, Nat.le_trans h.size hg.size, fun k hk hs => (hg.block k (Nat.lt_of_lt_of_le hk h.size) (fun e => hs (hr k e.symm hk))).trans (h.block k hk hs)⟩
theorem Keeps.below {S : Nat → Prop} {w w' : World} (h : Keeps S w w') {B : Nat} (hB : B ≤ w.heap.size) (hS : ∀ k, k < B → ¬ S k) : Below B w w' :=
  ⟨h.os, h.tape, h.output, h.size, fun k hk => h.block k (Nat.lt_of_lt_of_le hk hB) (hS k hk)⟩
theorem Keeps.of_below {w w' : World} (h : Below w.heap.size w w') (S : Nat → Prop) : Keeps S w w' :=
  ⟨h.os, h.tape, h.output, h.size, fun k hk _ => h.block k hk⟩
theorem Keeps.cell {S : Nat → Prop} {w w' : World} (h : Keeps S w w') {p : Addr} (hp : p.block < w.heap.size) (hn : ¬ S p.block) : w'.cell? p = w.cell? p := World.cell?_of_block (w := w) (h.block p.block hp hn)
theorem ownsRow_keep {S : Nat → Prop} {w w' : World} {base : Nat} {e : TypeId} {size : Nat} {v : Value} {n : Nat} {xs : List Value} (h : w.ownsRow base e size v n xs) (k : Keeps S w w') (hv : ∀ j, v.ownBlock = some j → ¬ S j) : w'.ownsRow base e size v n xs := by
  refine ⟨h.1, ?_⟩
  rcases h.2 with hn | ⟨g, cap, cur, rfl, hb, hg, r⟩
  · exact .inl hn
  · refine .inr ⟨g, cap, cur, rfl, hb, ?_, r⟩
    rw [k.block g (Array.getElem?_eq_some_iff.1 hg).1 (hv g rfl)]
    exact hg
/-- The row that a value owns is the old one, or was made since. -/
def Fresh (w : World) (g g' : Option Nat) : Prop := g' = g ∨ ∃ k, g' = some k ∧ w.heap.size ≤ k
theorem Fresh.trans {w w1 : World} {g g1 g2 : Option Nat} (h : Fresh w g g1) (k : Fresh w1 g1 g2) (hw : w.heap.size ≤ w1.heap.size) : Fresh w g g2 := by
  rcases k with rfl | ⟨j, rfl, hj⟩
  · exact h
  · exact .inr ⟨j, rfl, Nat.le_trans hw hj⟩
/-- Two steps that each turn block b and the row then owned. -/
theorem Keeps.step {b : Nat} {w wr w2 : World} {g g1 : Option Nat} (h1 : Keeps (fun k => k = b ∨ g = some k) w wr) (fr : Fresh w g g1) (h2 : Keeps (fun k => k = b ∨ g1 = some k) wr w2) : Keeps (fun k => k = b ∨ g = some k) w w2 :=
  ⟨h2.os.trans h1.os, h2.tape.trans h1.tape, h2.output.trans h1.output, Nat.le_trans h1.size h2.size, fun k hk hs =>
    (h2.block k (Nat.lt_of_lt_of_le hk h1.size) (fun e => by
      rcases e with e | e
      · exact hs (.inl e)
      · rcases fr with rfl | ⟨j, rfl, hj⟩
        · exact hs (.inr e)
        · cases e; omega)).trans (h1.block k hk hs)⟩
/-- A writer (a struct of one slice of bytes) of type T in block b, one of the blocks from B on; its row is in block g; it holds the bytes l. -/
def IsW (T B b : Nat) (g : Option Nat) (l : List UInt8) (w : World) : Prop :=
  B ≤ b ∧ g ≠ some b ∧ ∃ v, w.heap[b]? = some (.cells #[v] T (0, 0)) ∧ v.ownBlock = g ∧ w.ownsRow B 5 1 v l.length (Lib.byteCells l)
theorem IsW.lt {T B b : Nat} {g : Option Nat} {l : List UInt8} {w : World} (h : IsW T B b g l w) : b < w.heap.size := by
  obtain ⟨_, _, v, hv, _⟩ := h
  exact (Array.getElem?_eq_some_iff.1 hv).1
theorem IsW.row {T B b : Nat} {g : Option Nat} {l : List UInt8} {w : World} (h : IsW T B b g l w) : ∀ k, g = some k → B ≤ k ∧ k < w.heap.size := by
  obtain ⟨_, _, v, _, rfl, ho⟩ := h
  exact ho.lt
theorem IsW.keep {S : Nat → Prop} {T B b : Nat} {g : Option Nat} {l : List UInt8} {w w' : World} (h : IsW T B b g l w) (k : Keeps S w w') (hb : ¬ S b) (hg : ∀ j, g = some j → ¬ S j) : IsW T B b g l w' := by
  have hlt := h.lt
  obtain ⟨h1, h2, v, hv, rfl, ho⟩ := h
  exact ⟨h1, h2, v, (k.block b hlt hb).trans hv, rfl, ownsRow_keep ho k hg⟩
theorem IsW.of_len {T B b : Nat} {g : Option Nat} {l m : List UInt8} {w : World} (h : IsW T B b g l w) (e : l = m) : IsW T B b g m w := e ▸ h
/-- The block stands while another row grows. -/
theorem block_grown {wr w1 : World} {o : Obj} {T b : Nat} {v : Value} (hh : wr.heap[b]? = some (.cells #[v] T (0, 0))) (hne : v.ownBlock ≠ some b) (hg : (wr.alloc o).grownBy w1 v.ownBlock) : w1.heap[b]? = some (.cells #[v] T (0, 0)) := by
  have hlt := (Array.getElem?_eq_some_iff.1 hh).1
  rw [hg.block b (by simp; omega) (Ne.symm hne), Below.heap_alloc _ _ _ hlt]
  exact hh
theorem cell_one {w : World} {T b : Nat} {v : Value} (hh : w.heap[b]? = some (.cells #[v] T (0, 0))) : w.cell? ⟨b, 0, none⟩ = some v := by
  rw [cell_of_row w b 0 _ _ _ hh]; rfl
theorem frozen_one {w : World} {T b : Nat} {v : Value} (hh : w.heap[b]? = some (.cells #[v] T (0, 0))) : w.frozen? ⟨b, 0, none⟩ = false := frozen_of_row w b 0 _ _ hh
/-- An append to a writer, its slice stored back. -/
theorem app_done {T B b g1 cap : Nat} {wr w1 : World} {o : Obj} {v : Value} {l news : List UInt8} {n : Nat} (hB : B ≤ b) (hh : wr.heap[b]? = some (.cells #[v] T (0, 0))) (hne : v.ownBlock ≠ some b)
    (hn : l.length + news.length = n)
    (hg : (wr.alloc o).grownBy w1 v.ownBlock) (hown1 : w1.ownsRow B 5 1 (.slice (some ⟨g1, 0, none⟩) n cap) n (Lib.byteCells l ++ Lib.byteCells news)) (hat : v.ownBlock = some g1 ∨ g1 = wr.heap.size + 1) :
    IsW T B b (some g1) (l ++ news) (w1.setCell ⟨b, 0, none⟩ (.slice (some ⟨g1, 0, none⟩) n cap)) ∧ Fresh wr v.ownBlock (some g1) ∧
    Keeps (fun k => k = b ∨ v.ownBlock = some k) wr (w1.setCell ⟨b, 0, none⟩ (.slice (some ⟨g1, 0, none⟩) n cap)) := by
  have hlt := (Array.getElem?_eq_some_iff.1 hh).1
  have hb1 := block_grown hh hne hg
  have hgb : g1 ≠ b := by
    rcases hat with h | h
    · intro e; exact hne (by rw [h, e])
    · omega
  refine ⟨⟨hB, fun e => hgb (Option.some.inj e), .slice (some ⟨g1, 0, none⟩) n cap, ?_, rfl, ?_⟩, ?_, ?_⟩
  · rw [heap_setCell_same w1 b 0 _ T _ hb1]; rfl
  · subst hn
    refine ⟨by simp [Lib.byteCells], ?_⟩
    rcases hown1.2 with ⟨h, _⟩ | ⟨g, c, cur, e, hbase, hheap, r⟩
    · cases h
    · cases e
      refine .inr ⟨g1, cap, cur, by simp, hbase, ?_, ?_⟩
      · rw [Below.heap_setCell _ _ _ _ hgb]; exact hheap
      · rw [List.length_append, Lib.byteCells_append]; exact r
  · rcases hat with h | h
    · exact .inl h.symm
    · exact .inr ⟨g1, rfl, by omega⟩
  · refine Keeps.setCell (((Keeps.refl _ wr).alloc o).grown hg (fun k hk _ => .inr hk)) (fun _ => .inl rfl) _
end Go.Proofs.YtlbkcndmljlnmaaDoor
namespace Go.Proofs.YtlbkcndmljlnmaaDoor
open Go.RowKit
theorem L_irrefl : ∀ x : List UInt8, Op.bytesLess x x = false
  | [] => rfl
  | a :: x => by simp [Op.bytesLess, L_irrefl x]
theorem L_total : ∀ x y : List UInt8, Op.bytesLess x y = false → Op.bytesLess y x = false → x = y
  | [], [], _, _ => rfl
  | [], _ :: _, h, _ => by simp [Op.bytesLess] at h
  | _ :: _, [], _, h => by simp [Op.bytesLess] at h
  | a :: x, b :: y, h1, h2 => by
    simp only [Op.bytesLess, Bool.or_eq_false_iff, decide_eq_false_iff_not, Bool.and_eq_false_iff] at h1 h2
    have e : a = b := by
      have g1 := h1.1; have g2 := h2.1
      simp only [UInt8.lt_iff_toNat_lt] at g1 g2
      exact UInt8.toNat_inj.1 (by omega)
    subst e
    rw [L_total x y (by simpa using h1.2) (by simpa using h2.2)]
theorem L_trans : ∀ x y z : List UInt8, Op.bytesLess x y = true → Op.bytesLess y z = true → Op.bytesLess x z = true
  | _, _, [], _, h => by cases ‹List UInt8› <;> simp [Op.bytesLess] at h
  | _, [], _ :: _, h, _ => by cases ‹List UInt8› <;> simp [Op.bytesLess] at h
  | [], _ :: _, _ :: _, _, _ => by simp [Op.bytesLess]
  | a :: x, b :: y, c :: z, h1, h2 => by
    simp only [Op.bytesLess, Bool.or_eq_true, decide_eq_true_eq, Bool.and_eq_true, beq_iff_eq, UInt8.lt_iff_toNat_lt] at h1 h2 ⊢
    rcases h1 with h1 | ⟨rfl, h1⟩
    · rcases h2 with h2 | ⟨rfl, h2⟩
      · exact .inl (by omega)
      · exact .inl h1
    · rcases h2 with h2 | ⟨rfl, h2⟩
      · exact .inl h2
      · exact .inr ⟨rfl, L_trans x y z h1 h2⟩
theorem toList_inj {a b : ByteArray} (h : a.toList = b.toList) : a = b := by
  rw [ByteArray.toList_eq, ByteArray.toList_eq] at h
  cases a; cases b
  simp only [ByteArray.mk.injEq]
  exact Array.toList_inj.1 h
/-- A key is lower than another. -/
def kLt (a b : ByteArray) : Bool := Op.bytesLess a.toList b.toList
theorem kLt_irrefl (a : ByteArray) : kLt a a = false := L_irrefl _
theorem kLt_trans {a b c : ByteArray} (h : kLt a b = true) (k : kLt b c = true) : kLt a c = true := L_trans _ _ _ h k
theorem kLt_asymm {a b : ByteArray} (h : kLt a b = true) : kLt b a = false := by
  cases k : kLt b a
  · rfl
  · have := kLt_trans h k; rw [kLt_irrefl] at this; cases this
theorem kLt_total {a b : ByteArray} (h : kLt a b = false) (k : kLt b a = false) : a = b := toList_inj (L_total _ _ h k)
theorem kLt_trans_le {a b c : ByteArray} (h : kLt a b = true) (k : kLt c b = false) : kLt a c = true := by
  cases h2 : kLt b c
  · rw [kLt_total k h2]; exact h
  · exact kLt_trans h h2
/-- A row. -/
structure Rw (β α : Type) where
  k : ByteArray
  v : β
  s : α
/-- A tree of rows. -/
inductive Tr (β α : Type) where
  | nil : Tr β α
  | node (l : Tr β α) (k : ByteArray) (v : β) (s : α) (r : Tr β α) : Tr β α
namespace Tr
variable {β α : Type}
def isNil : Tr β α → Bool
  | nil => true
  | node .. => false
def cnt : Tr β α → Nat
  | nil => 0
  | node l _ _ _ r => l.cnt + 1 + r.cnt
def ht : Tr β α → Nat
  | nil => 0
  | node l _ _ _ r => max l.ht r.ht + 1
/-- How much a tree holds: its rows, and what their summaries take. -/
def wt (z : α → Nat) : Tr β α → Nat
  | nil => 0
  | node l _ _ s r => l.wt z + 1 + z s + r.wt z
/-- The sum that a node keeps. -/
def sum (J : α → α → α) (e : α) : Tr β α → α
  | nil => e
  | node l _ _ s r =>
    if r.isNil then (if l.isNil then s else J (l.sum J e) s) else J (if l.isNil then s else J (l.sum J e) s) (r.sum J e)
def rows : Tr β α → List (Rw β α)
  | nil => []
  | node l k v s r => l.rows ++ ⟨k, v, s⟩ :: r.rows
theorem rows_length : ∀ t : Tr β α, t.rows.length = t.cnt
  | nil => rfl
  | node l k v s r => by simp [rows, cnt, rows_length l, rows_length r]; omega
theorem ht_le_cnt : ∀ t : Tr β α, t.ht ≤ t.cnt
  | nil => Nat.le_refl _
  | node l k v s r => by have := ht_le_cnt l; have := ht_le_cnt r; simp only [ht, cnt]; omega
theorem cnt_le_wt (z : α → Nat) : ∀ t : Tr β α, t.cnt ≤ t.wt z
  | nil => Nat.le_refl _
  | node l k v s r => by have := cnt_le_wt z l; have := cnt_le_wt z r; simp only [wt, cnt]; omega
theorem sum_le {z : α → Nat} {J : α → α → α} (hJ : ∀ a b, z (J a b) ≤ z a + z b) (e : α) : ∀ t : Tr β α, t.isNil = false → z (t.sum J e) ≤ t.wt z
  | nil, h => by cases h
  | node l k v s r, _ => by
    have hl : l.isNil = false → z (l.sum J e) ≤ l.wt z := sum_le hJ e l
    have hr : r.isNil = false → z (r.sum J e) ≤ r.wt z := sum_le hJ e r
    cases h1 : l.isNil <;> cases h2 : r.isNil <;> simp only [sum, wt, h1, h2, if_true, if_false, Bool.false_eq_true]
    · have := hJ (J (l.sum J e) s) (r.sum J e); have := hJ (l.sum J e) s; have := hl h1; have := hr h2; omega
    · have := hJ (l.sum J e) s; have := hl h1; omega
    · have := hJ s (r.sum J e); have := hr h2; omega
    · omega
/-- A node turned to the right. -/
def turnR (k : ByteArray) (v : β) (s : α) (l r : Tr β α) : Tr β α :=
  match l with
  | nil => node nil k v s r
  | node ll lk lv ls lr =>
    if lr.ht ≤ ll.ht then node ll lk lv ls (node lr k v s r) else
      match lr with
      | nil => node (node ll lk lv ls nil) k v s r
      | node a ik iv is b => node (node ll lk lv ls a) ik iv is (node b k v s r)
def turnL (k : ByteArray) (v : β) (s : α) (l r : Tr β α) : Tr β α :=
  match r with
  | nil => node l k v s nil
  | node rl rk rv rs rr =>
    if rl.ht ≤ rr.ht then node (node l k v s rl) rk rv rs rr else
      match rl with
      | nil => node l k v s (node nil rk rv rs rr)
      | node a ik iv is b => node (node l k v s a) ik iv is (node b rk rv rs rr)
def level (k : ByteArray) (v : β) (s : α) (l r : Tr β α) : Tr β α :=
  if l.ht = r.ht + 2 then turnR k v s l r else if r.ht = l.ht + 2 then turnL k v s l r else node l k v s r
theorem level_cases {P : Tr β α → Prop} (k : ByteArray) (v : β) (s : α) (l r : Tr β α)
    (h0 : ¬ l.ht = r.ht + 2 → ¬ r.ht = l.ht + 2 → P (node l k v s r))
    (h1 : ∀ ll lk lv ls lr, l = node ll lk lv ls lr → l.ht = r.ht + 2 → lr.ht ≤ ll.ht → P (node ll lk lv ls (node lr k v s r)))
    (h2 : ∀ ll lk lv ls a ik iv is b, l = node ll lk lv ls (node a ik iv is b) → l.ht = r.ht + 2 → ll.ht < (node a ik iv is b).ht → P (node (node ll lk lv ls a) ik iv is (node b k v s r)))
    (h3 : ∀ rl rk rv rs rr, r = node rl rk rv rs rr → r.ht = l.ht + 2 → rl.ht ≤ rr.ht → P (node (node l k v s rl) rk rv rs rr))
    (h4 : ∀ a ik iv is b rk rv rs rr, r = node (node a ik iv is b) rk rv rs rr → r.ht = l.ht + 2 → rr.ht < (node a ik iv is b).ht → P (node (node l k v s a) ik iv is (node b rk rv rs rr))) : P (level k v s l r) := by
  unfold level
  split
  · rename_i h
    match l, h with
    | node ll lk lv ls lr, h =>
      simp only [turnR]
      split
      · rename_i g; exact h1 _ _ _ _ _ rfl h g
      · rename_i g
        match lr, h, g with
        | nil, h, g => simp [ht] at g
        | node a ik iv is b, h, g => exact h2 _ _ _ _ _ _ _ _ _ rfl h (by omega)
  · rename_i hn
    split
    · rename_i h
      match r, h with
      | node rl rk rv rs rr, h =>
        simp only [turnL]
        split
        · rename_i g; exact h3 _ _ _ _ _ rfl h g
        · rename_i g
          match rl, h, g with
          | nil, h, g => simp [ht] at g
          | node a ik iv is b, h, g => exact h4 _ _ _ _ _ _ _ _ _ rfl h (by omega)
    · rename_i h; exact h0 hn h
theorem rows_level (k : ByteArray) (v : β) (s : α) (l r : Tr β α) : (level k v s l r).rows = l.rows ++ ⟨k, v, s⟩ :: r.rows := by
  apply level_cases (P := fun t => t.rows = l.rows ++ ⟨k, v, s⟩ :: r.rows)
  · intros; rfl
  · rintro _ _ _ _ _ rfl _ _; simp [rows]
  · rintro _ _ _ _ _ _ _ _ _ rfl _ _; simp [rows]
  · rintro _ _ _ _ _ rfl _ _; simp [rows]
  · rintro _ _ _ _ _ _ _ _ _ rfl _ _; simp [rows]
theorem wt_level (z : α → Nat) (k : ByteArray) (v : β) (s : α) (l r : Tr β α) : (level k v s l r).wt z = l.wt z + 1 + z s + r.wt z := by
  apply level_cases (P := fun t => t.wt z = l.wt z + 1 + z s + r.wt z)
  · intros; rfl
  · rintro _ _ _ _ _ rfl _ _; simp only [wt]; omega
  · rintro _ _ _ _ _ _ _ _ _ rfl _ _; simp only [wt]; omega
  · rintro _ _ _ _ _ rfl _ _; simp only [wt]; omega
  · rintro _ _ _ _ _ _ _ _ _ rfl _ _; simp only [wt]; omega
/-- At each node the sides' heights differ by at most one. -/
def bal : Tr β α → Prop
  | nil => True
  | node l _ _ _ r => l.bal ∧ r.bal ∧ l.ht ≤ r.ht + 1 ∧ r.ht ≤ l.ht + 1
theorem bal_level {k : ByteArray} {v : β} {s : α} {l r : Tr β α} (hl : l.bal) (hr : r.bal) (h1 : l.ht ≤ r.ht + 2) (h2 : r.ht ≤ l.ht + 2) :
    (level k v s l r).bal ∧ (level k v s l r).ht ≤ max l.ht r.ht + 1 ∧ max l.ht r.ht ≤ (level k v s l r).ht ∧ (l.ht ≤ r.ht + 1 → r.ht ≤ l.ht + 1 → (level k v s l r).ht = max l.ht r.ht + 1) := by
  apply level_cases (P := fun t => t.bal ∧ t.ht ≤ max l.ht r.ht + 1 ∧ max l.ht r.ht ≤ t.ht ∧ (l.ht ≤ r.ht + 1 → r.ht ≤ l.ht + 1 → t.ht = max l.ht r.ht + 1))
  · intro a b; simp only [bal, ht]; exact ⟨⟨hl, hr, by omega, by omega⟩, by omega, by omega, fun _ _ => by first | rfl | trivial⟩
  · rintro ll lk lv ls lr rfl e g
    obtain ⟨a, b, c, d⟩ := hl
    simp only [bal, ht] at *
    exact ⟨⟨a, ⟨b, hr, by omega, by omega⟩, by omega, by omega⟩, by omega, by omega, by omega⟩
  · rintro ll lk lv ls a ik iv is b rfl e g
    obtain ⟨p, ⟨q1, q2, q3, q4⟩, c, d⟩ := hl
    simp only [bal, ht] at *
    exact ⟨⟨⟨p, q1, by omega, by omega⟩, ⟨q2, hr, by omega, by omega⟩, by omega, by omega⟩, by omega, by omega, by omega⟩
  · rintro ll lk lv ls lr rfl e g
    obtain ⟨a, b, c, d⟩ := hr
    simp only [bal, ht] at *
    exact ⟨⟨⟨hl, a, by omega, by omega⟩, b, by omega, by omega⟩, by omega, by omega, by omega⟩
  · rintro a ik iv is b rk rv rs rr rfl e g
    obtain ⟨⟨q1, q2, q3, q4⟩, p, c, d⟩ := hr
    simp only [bal, ht] at *
    exact ⟨⟨⟨hl, q1, by omega, by omega⟩, ⟨q2, p, by omega, by omega⟩, by omega, by omega⟩, by omega, by omega, by omega⟩
def put (k : ByteArray) (v : β) (s : α) : Tr β α → Tr β α
  | nil => node nil k v s nil
  | node l k' v' s' r =>
    if kLt k k' then level k' v' s' (put k v s l) r else if kLt k' k then level k' v' s' l (put k v s r) else node l k v s r
theorem bal_put (k : ByteArray) (v : β) (s : α) : ∀ t : Tr β α, t.bal → (put k v s t).bal ∧ t.ht ≤ (put k v s t).ht ∧ (put k v s t).ht ≤ t.ht + 1
  | nil, _ => by simp [put, bal, ht]
  | node l k' v' s' r, h => by
    obtain ⟨hl, hr, h1, h2⟩ := h
    simp only [put]
    split
    · obtain ⟨a, b, c⟩ := bal_put k v s l hl
      obtain ⟨p, q, r1, r2⟩ := bal_level (k := k') (v := v') (s := s') a hr (by omega) (by omega)
      refine ⟨p, ?_, ?_⟩
      · by_cases g : (put k v s l).ht ≤ r.ht + 1
        · rw [r2 g (by omega)]; simp only [ht]; omega
        · simp only [ht]; omega
      · by_cases g : (put k v s l).ht ≤ r.ht + 1
        · rw [r2 g (by omega)]; simp only [ht]; omega
        · simp only [ht]; omega
    · split
      · obtain ⟨a, b, c⟩ := bal_put k v s r hr
        obtain ⟨p, q, r1, r2⟩ := bal_level (k := k') (v := v') (s := s') hl a (by omega) (by omega)
        refine ⟨p, ?_, ?_⟩
        · by_cases g : (put k v s r).ht ≤ l.ht + 1
          · rw [r2 (by omega) g]; simp only [ht]; omega
          · simp only [ht]; omega
        · by_cases g : (put k v s r).ht ≤ l.ht + 1
          · rw [r2 (by omega) g]; simp only [ht]; omega
          · simp only [ht]; omega
      · exact ⟨⟨hl, hr, h1, h2⟩, Nat.le_refl _, Nat.le_succ _⟩
theorem bal_cnt : ∀ t : Tr β α, t.bal → 2 ^ (t.ht / 2) ≤ t.cnt + 1
  | nil, _ => by simp [ht, cnt]
  | node l k v s r, h => by
    obtain ⟨hl, hr, h1, h2⟩ := h
    have a := bal_cnt l hl
    have b := bal_cnt r hr
    simp only [ht, cnt]
    by_cases h0 : max l.ht r.ht = 0
    · rw [h0]; simp
    · have e : (max l.ht r.ht + 1) / 2 = (max l.ht r.ht - 1) / 2 + 1 := by omega
      rw [e, Nat.pow_succ]
      have c : 2 ^ ((max l.ht r.ht - 1) / 2) ≤ 2 ^ (l.ht / 2) := Nat.pow_le_pow_right (by omega) (by omega)
      have d : 2 ^ ((max l.ht r.ht - 1) / 2) ≤ 2 ^ (r.ht / 2) := Nat.pow_le_pow_right (by omega) (by omega)
      omega
theorem bal_ht {t : Tr β α} (h : t.bal) {n : Nat} (hn : t.cnt + 1 ≤ 2 ^ n) : t.ht ≤ 2 * n + 1 := by
  have := bal_cnt t h
  have h2 : t.ht / 2 ≤ n := by
    by_cases g : t.ht / 2 ≤ n
    · exact g
    · have : 2 ^ (n + 1) ≤ 2 ^ (t.ht / 2) := Nat.pow_le_pow_right (by omega) (by omega)
      rw [Nat.pow_succ] at this
      have := Nat.one_le_two_pow (n := n)
      omega
  omega
end Tr
end Go.Proofs.YtlbkcndmljlnmaaDoor
namespace Go.Proofs.YtlbkcndmljlnmaaDoor
open Go.RowKit
set_option linter.unusedVariables false
theorem bthen {w w1 w2 : World} (h : Below w.heap.size w w1) (h2 : Below w1.heap.size w1 w2) : Below w.heap.size w w2 := h.trans (h2.mono h.size)
theorem bnew (w : World) (o : Obj) : Below w.heap.size w (w.alloc o) := (Below.refl _ w).alloc (Nat.le_refl _) _
theorem blk_on {w w' : World} {i : Nat} {o : Obj} (h : w.heap[i]? = some o) (b : Below w.heap.size w w') : w'.heap[i]? = some o := (b.block i (Array.getElem?_eq_some_iff.1 h).1).trans h
theorem lt_of_blk {w : World} {i : Nat} {o : Obj} (h : w.heap[i]? = some o) : i < w.heap.size := (Array.getElem?_eq_some_iff.1 h).1
theorem blk_keep {S : Nat → Prop} {w w' : World} {i : Nat} {o : Obj} (h : w.heap[i]? = some o) (k : Keeps S w w') (hn : ¬ S i) : w'.heap[i]? = some o := (k.block i (lt_of_blk h) hn).trans h
/-- Blocks of the type T stay as they are. -/
def Stay (T : TypeId) (w w' : World) : Prop := ∀ (b : Nat) (cs : Array Value), w.heap[b]? = some (.cells cs T (0, 0)) → w'.heap[b]? = some (.cells cs T (0, 0))
theorem Stay.refl (T : TypeId) (w : World) : Stay T w w := fun _ _ h => h
theorem Stay.trans {T : TypeId} {a b c : World} (h : Stay T a b) (k : Stay T b c) : Stay T a c := fun _ _ e => k _ _ (h _ _ e)
theorem Stay.drew {T : TypeId} {a b : World} (h : Stay T a b) : Stay T a b.drew := fun _ _ e => h _ _ e
theorem Stay.alloc {T : TypeId} {a b : World} (h : Stay T a b) (o : Obj) : Stay T a (b.alloc o) := fun _ _ e => blk_on (h _ _ e) (bnew _ _)
theorem Stay.setCell {T : TypeId} {a b : World} (h : Stay T a b) {p : Addr} (u : Value) (hp : ∀ cs, b.heap[p.block]? ≠ some (.cells cs T (0, 0))) : Stay T a (b.setCell p u) := fun i _ e => by
  rw [heap_setCell_other]
  · exact h _ _ e
  · rintro rfl; exact hp _ (h _ _ e)
theorem Stay.keeps {T : TypeId} {S : Nat → Prop} {a b c : World} (h : Stay T a b) (k : Keeps S b c) (hS : ∀ i cs, b.heap[i]? = some (.cells cs T (0, 0)) → ¬ S i) : Stay T a c := fun i _ e => blk_keep (h _ _ e) k (hS _ _ (h _ _ e))
/-- The counter's block. -/
def OnC (c : Option Nat) : Nat → Prop := fun k => c = some k
theorem str_gtr {a b : ByteArray} {q : Bool} (h : (!(Op.bytesLess a.toList b.toList || a.toList == b.toList)) = q) : binOp .gtr 9 (.string a) (.string b) = pure (.bool q) := by
  simp only [binOp, Op.stringOp, h]
theorem kLt_same {a b : ByteArray} (h : kLt a b = false) (k : kLt b a = false) : (!(Op.bytesLess a.toList b.toList || a.toList == b.toList)) = false := by
  rw [kLt_total h k]; simp
theorem kLt_over {a b : ByteArray} (h : kLt b a = true) : (!(Op.bytesLess a.toList b.toList || a.toList == b.toList)) = true := by
  have h1 := kLt_asymm h
  have h2 : a.toList ≠ b.toList := fun e => by rw [toList_inj e, kLt_irrefl] at h; cases h
  unfold kLt at h1
  simp [h1, h2]
/-- A Map. -/
structure Mp where
  A : UInt64
  B : UInt64
def Mp.a (m : Mp) : Int := (m.A.toNat : Int)
def Mp.b (m : Mp) : Int := (m.B.toNat : Int)
theorem u64_add (x y : UInt64) : IntKind.u64.wrap ((x.toNat : Int) + (y.toNat : Int)) = ((x + y).toNat : Int) := by
  rw [IntKind.wrap_u64, UInt64.toNat_add]; omega
end Go.Proofs.YtlbkcndmljlnmaaDoor
namespace Go.Proofs.YtlbkcndmljlnmaaDoor
open Go.RowKit
set_option linter.unusedVariables false
/-- An entry, plain. -/
structure En where
  k : ByteArray
  c : Int
  n : Int
  v : ByteArray
  d : Bool
theorem ret_bool {a b : Bool} (h : a = b) : Ending.returned (.bool a) = .returned (.bool b) := by rw [h]
theorem cell_in {W W' : World} {p : Addr} {v : Value} (h : W.cell? p = some v) (b : Below W.heap.size W W') : W'.cell? p = some v :=
  (World.cell?_of_block (w := W) (b.block p.block (World.block_lt_of_cell? W _ h))).trans h
/-- The two cells of a sum's block. -/
theorem pair {w : World} {i : Nat} {a b : Value} {T : TypeId} (h : w.heap[i]? = some (.cells #[a, b] T (0, 0))) :
    w.cell? ⟨i, 0, none⟩ = some a ∧ w.cell? ⟨i, 1, none⟩ = some b ∧ w.frozen? ⟨i, 0, none⟩ = false ∧ w.frozen? ⟨i, 1, none⟩ = false :=
  ⟨by simp [World.cell?, h], by simp [World.cell?, h], frozen_of_row w i 0 _ _ h, frozen_of_row w i 1 _ _ h⟩
/-- What is kept of the world in a loop over a sum's two elements: own blocks from n on. -/
structure Two (w wr : World) (i : Nat) (a b : Int) : Prop where
  below : Below w.heap.size w wr
  low : w.heap.size ≤ i
  blk : wr.heap[i]? = some (.cells #[.int .u64 a, .int .u64 b] 95 (0, 0))
end Go.Proofs.YtlbkcndmljlnmaaDoor
namespace Go.Proofs.YtlbkcndmljlnmaaDoor
open Go.RowKit
set_option linter.unusedVariables false
/-- The table of lanes, cell for cell. -/
structure Lanes (w : World) : Prop where
  c0 : w.cell? ⟨0, 0, none⟩ = some (.int .u64 2611923443488327891)
  c1 : w.cell? ⟨0, 1, none⟩ = some (.int .u64 11400714819323198485)
  c2 : w.cell? ⟨0, 2, none⟩ = some (.int .u64 29)
  c3 : w.cell? ⟨0, 3, none⟩ = some (.int .u64 1376283091369227076)
  c4 : w.cell? ⟨0, 4, none⟩ = some (.int .u64 14029467366897019727)
  c5 : w.cell? ⟨0, 5, none⟩ = some (.int .u64 32)
theorem Lanes.keep {w w' : World} (h : Lanes w) (b : Below w.heap.size w w') : Lanes w' :=
  ⟨cell_in h.c0 b, cell_in h.c1 b, cell_in h.c2 b, cell_in h.c3 b, cell_in h.c4 b, cell_in h.c5 b⟩
theorem Lanes.pos {w : World} (h : Lanes w) : 0 < w.heap.size := World.block_lt_of_cell? w _ h.c0
/-- The memory in the loop over a sum's elements. -/
def mix2 (w : World) (x0 x1 r0 r1 : Int) : World :=
  (w.alloc (.cells #[.int .u64 x0, .int .u64 x1] 95)).alloc (.cells #[.int .u64 r0, .int .u64 r1] 95)
theorem mix2_below (w : World) (x0 x1 r0 r1 : Int) : Below w.heap.size w (mix2 w x0 x1 r0 r1) := (bnew w _).alloc (by simp) _
def MixRel (w : World) (a0 a1 s0 s1 : Int) (i : Value) (wr : World) : Prop :=
  (i = .int .i64 0 ∧ wr = mix2 w a0 a1 0 0) ∨ (i = .int .i64 1 ∧ wr = (mix2 w s0 a1 0 0).drew.drew) ∨ (i = .int .i64 2 ∧ wr = (mix2 w s0 s1 0 0).drew.drew.drew.drew)
/-- One word mixed into a lane. -/
def mixI (f : Int) (s : Nat) (x u : Int) : Int :=
  bits .xor .u64 (IntKind.u64.wrap (bits .xor .u64 x u * f)) (IntKind.u64.wrap (bits .xor .u64 x u * f) / 2 ^ s)
set_option maxHeartbeats 1600000 in
set_option maxRecDepth 100000 in
theorem mixed_any (a0 a1 u : Int) (w : World) (L : Lanes w) :
    Calls Tryd.prog 107 #[.agg #[.int .u64 a0, .int .u64 a1], .int .u64 u] w fun e w' => e = .returned (.agg #[.int .u64 (mixI 11400714819323198485 29 a0 u), .int .u64 (mixI 14029467366897019727 32 a1 u)]) ∧ Below w.heap.size w w' := by
  have h0 := L.pos
  obtain ⟨c0, c1, c2, c3, c4, c5⟩ := L
  go_enter Tryd.func107, Tryd.ntmps107
  go_wp2
  go_loopw [6] (fun i wr => MixRel w a0 a1 (mixI 11400714819323198485 29 a0 u) (mixI 14029467366897019727 32 a1 u) i wr) (fun i _ => 2 - (intOf i).toNat)
  case atStart => exact .inl ⟨rfl, rfl⟩
  case round =>
    obtain ⟨rfl, rfl⟩ | ⟨rfl, rfl⟩ | ⟨rfl, rfl⟩ := hrel
    · unfold mix2
      go_wp2
      go_region
      go_wp2
      go_region
      go_wp2
      go_roundw
      case rel => exact .inr (.inl ⟨rfl, rfl⟩)
      case measure => simp [intOf]
    · unfold mix2
      go_wp2
      go_region
      go_wp2
      go_region
      go_wp2
      go_roundw
      case rel => exact .inr (.inr ⟨rfl, rfl⟩)
      case measure => simp [intOf]
    · unfold mix2
      go_wp2
      exact bodyPost_ret (v := .agg #[.int .u64 (mixI 11400714819323198485 29 a0 u), .int .u64 (mixI 14029467366897019727 32 a1 u)]) (by simp [results, Tryd.results107, go_sem]) rfl ⟨rfl, (mix2_below w _ _ _ _).drew.drew.drew.drew⟩
end Go.Proofs.YtlbkcndmljlnmaaDoor
namespace Go.Proofs.YtlbkcndmljlnmaaDoor
open Go.ChangeShapes Go.WideShapes Go.ChangeAt Go.RowKit
set_option linter.unusedVariables false
theorem own : ownKnob Tryd.prog.godebug = none := by kernel_rfl
theorem laidOut : laidOutB Tryd.prog = true := by kernel_rfl
theorem cellsVer : Tryd.prog.cellsOf 42 = 2 := by kernel_rfl
theorem cellsEnt : Tryd.prog.cellsOf 44 = 5 := by kernel_rfl
theorem bytesEnt : Tryd.prog.bytesOf 44 = 56 := by kernel_rfl
theorem cellsInt : Tryd.prog.cellsOf 3 = 1 := by kernel_rfl
theorem cellsStr : Tryd.prog.cellsOf 9 = 1 := by kernel_rfl
theorem cellsBool : Tryd.prog.cellsOf 4 = 1 := by kernel_rfl
theorem cellsU64 : Tryd.prog.cellsOf 93 = 1 := by kernel_rfl
theorem cellsUint : Tryd.prog.cellsOf 169 = 1 := by kernel_rfl
theorem cellsLane : Tryd.prog.cellsOf 171 = 3 := by kernel_rfl
theorem cellsLanes : Tryd.prog.cellsOf 172 = 6 := by kernel_rfl
theorem gLanes : Tryd.prog.globalNamed "tideline/mix.lanes" = some 0 := by kernel_rfl
theorem gLanesType : (Tryd.prog.globals[0]?).map (·.type) = some 172 := by kernel_rfl
variable {H : Type} {enc : TypeId × Value → H} {W : World}
set_option maxRecDepth 100000 in
/-- One row of the table, from its reading. -/
theorem lane_cells {b0 : Nat} {sp : Nat → Bool} {held : Bool} {fuel : Nat} {cs : List Value} {a f s : Int} {p : List MemPlace} (h : DataW.trod enc Tryd.prog W b0 sp held fuel 171 cs = some ((.agg [.lit (.int .u64 a), .lit (.int .u64 f), .lit (.int .u64 s)] : DataW H), p)) :
    cs = [.int .u64 a, .int .u64 f, .int .u64 s] := by
  obtain ⟨y0, y1, y2, m, hx, hl, h0, h1, h2⟩ := Deep.trod_struct3 Tryd.underlying171 h
  rw [cellsLane] at hl
  match cs, hl with
  | [v0, v1, v2], _ =>
    simp [cellsU64, cellsUint] at h0 h1 h2
    obtain ⟨z0, e0, rfl, -⟩ := DataW.trod_int Tryd.underlying93 h0
    obtain ⟨z1, e1, rfl, -⟩ := DataW.trod_int Tryd.underlying93 h1
    obtain ⟨z2, e2, rfl, -⟩ := DataW.trod_int Tryd.underlying169 h2
    simp only [List.cons.injEq, and_true] at e0 e1 e2
    subst e0 e1 e2
    simp at hx
    obtain ⟨⟨rfl, rfl, rfl⟩, -⟩ := hx
    rfl
set_option maxRecDepth 100000 in
theorem lanes_of {W : World} (h : laidMet Tryd.prog [("tideline/mix.lanes", Rows.laid_tideline_mix_lanes)] W) : Lanes W := by
  obtain ⟨ps, ⟨g', t', cs, fuel, p, q, hg', ht', hvar, hd, _, _⟩, _⟩ := h
  obtain rfl := Option.some.inj (gLanes.symm.trans hg')
  obtain rfl := Option.some.inj (gLanesType.symm.trans ht')
  obtain ⟨xs, m, _, hx, hl, hxl, hel⟩ := DataW.trod_array Tryd.underlying172 hd
  rw [cellsLanes] at hl
  rw [cellsLane] at hel
  match xs, hxl with
  | [x0, x1], _ =>
    have g0 := hel 0 (by omega)
    have g1 := hel 1 (by omega)
    simp only [Rows.laid_tideline_mix_lanes, Prod.mk.injEq, List.map_cons, List.map_nil, DataW.agg.injEq, List.cons.injEq, and_true] at hx
    obtain ⟨⟨q0, q1⟩, -⟩ := hx
    have e0 := lane_cells (p := x0.2) (g0.trans (by rw [List.getElem?_cons_zero, q0]))
    have e1 := lane_cells (p := x1.2) (g1.trans (by rw [List.getElem?_cons_succ, List.getElem?_cons_zero, q1]))
    obtain ⟨l⟩ := cs
    match l, hl with
    | [v0, v1, v2, v3, v4, v5], _ =>
      simp at e0 e1
      obtain ⟨rfl, rfl, rfl⟩ := e0
      obtain ⟨rfl, rfl, rfl⟩ := e1
      exact ⟨World.var?_cell gLanes hvar 0, World.var?_cell gLanes hvar 1, World.var?_cell gLanes hvar 2, World.var?_cell gLanes hvar 3, World.var?_cell gLanes hvar 4, World.var?_cell gLanes hvar 5⟩
end Go.Proofs.YtlbkcndmljlnmaaDoor
namespace Go.Proofs.YtlbkcndmljlnmaaDoor
open Go.RowKit
theorem ret_i64 {a b : Int} (h : a = b) : Ending.returned (.int .i64 a) = .returned (.int .i64 b) := by rw [h]
/-- Two numbers. -/
def Vs.c2 (x y : Int) : Int := if y < x then 1 else if x < y then -1 else 0
/-- Whether a version may be. -/
def Vs.chk (c n : Int) : Int := if c < 1 ∨ 1099511627776 < c ∨ n < 0 ∨ 8 ≤ n then 30 else 0
/-- The next version: its numbers, and the error. -/
def Vs.nx (clock node : Int) : Int × Int × Int :=
  if node < 0 ∨ 8 ≤ node ∨ clock < 0 ∨ 1099511627776 < clock then (0, 0, 30) else if clock = 1099511627776 then (0, 0, 33) else (clock + 1, node, 0)
def Vs.nxV (r : Int × Int × Int) : Value := .tuple #[.agg #[.int .i64 r.1, .int .i64 r.2.1], .int .i64 r.2.2]
theorem chk_bad1 {c : Int} (n : Int) (h : c < 1) : Vs.chk c n = 30 := by unfold Vs.chk; rw [if_pos (.inl h)]
theorem chk_bad2 {c : Int} (n : Int) (h : 1099511627776 < c) : Vs.chk c n = 30 := by unfold Vs.chk; rw [if_pos (.inr (.inl h))]
theorem chk_bad3 (c : Int) {n : Int} (h : n < 0) : Vs.chk c n = 30 := by unfold Vs.chk; rw [if_pos (.inr (.inr (.inl h)))]
theorem chk_bad4 (c : Int) {n : Int} (h : 8 ≤ n) : Vs.chk c n = 30 := by unfold Vs.chk; rw [if_pos (.inr (.inr (.inr h)))]
theorem chk_ok {c n : Int} (h1 : ¬ c < 1) (h2 : ¬ 1099511627776 < c) (h3 : ¬ n < 0) (h4 : ¬ 8 ≤ n) : Vs.chk c n = 0 := by unfold Vs.chk; rw [if_neg (by omega)]
/-- Whether a number is a node's. -/
def nodeB (n : Int) : Bool := decide (0 ≤ n) && decide (n < 8)
theorem node_no1 {n : Int} (h : n < 0) : nodeB n = false := by simp [nodeB]; omega
theorem node_no2 {n : Int} (h : 8 ≤ n) : nodeB n = false := by simp [nodeB]; omega
theorem node_yes {n : Int} (h1 : ¬ n < 0) (h2 : ¬ 8 ≤ n) : nodeB n = true := by simp [nodeB]; omega
set_option maxHeartbeats 400000 in
theorem isNode_any (n : Int) (w : World) : Calls Tryd.prog 86 #[.int .i64 n] w fun e w' => e = .returned (.bool (nodeB n)) ∧ w' = w := by
  by_cases h1 : n < 0
  · have h1' : ¬ 0 ≤ n := by omega
    go_enter Tryd.func86, Tryd.ntmps86
    go_wp2
    go_ret
    exact ⟨ret_bool (by simp [nodeB]; omega), rfl⟩
  · have h1' : 0 ≤ n := by omega
    go_enter Tryd.func86, Tryd.ntmps86
    go_wp2
    go_ret
    exact ⟨ret_bool (by simp [nodeB]; omega), rfl⟩
theorem isNode_at {n : Int} {q : Bool} (h : nodeB n = q) (w : World) : Calls Tryd.prog 86 #[.int .i64 n] w fun e w' => e = .returned (.bool q) ∧ w' = w := by
  subst h; exact isNode_any n w
set_option maxHeartbeats 800000 in
theorem checkVersion_any (c n : Int) (w : World) : Calls Tryd.prog 59 #[.agg #[.int .i64 c, .int .i64 n]] w fun e w' => e = .returned (.int .i64 (Vs.chk c n)) ∧ Below w.heap.size w w' := by
  by_cases h1 : c < 1
  · go_enter Tryd.func59, Tryd.ntmps59
    go_wp2
    go_ret
    exact ⟨ret_i64 (chk_bad1 n h1).symm, bnew w _⟩
  by_cases h2 : 1099511627776 < c
  · go_enter Tryd.func59, Tryd.ntmps59
    go_wp2
    go_ret
    exact ⟨ret_i64 (chk_bad2 n h2).symm, bnew w _⟩
  by_cases h3 : n < 0
  · go_enter Tryd.func59, Tryd.ntmps59
    go_wp2_with (go_at_call 86; refine (isNode_at (node_no1 h3) _).mono ?_; rintro e w1 ⟨rfl, rfl⟩)
    go_ret
    exact ⟨ret_i64 (chk_bad3 c h3).symm, bnew w _⟩
  by_cases h4 : 8 ≤ n
  · go_enter Tryd.func59, Tryd.ntmps59
    go_wp2_with (go_at_call 86; refine (isNode_at (node_no2 h4) _).mono ?_; rintro e w1 ⟨rfl, rfl⟩)
    go_ret
    exact ⟨ret_i64 (chk_bad4 c h4).symm, bnew w _⟩
  · go_enter Tryd.func59, Tryd.ntmps59
    go_wp2_with (go_at_call 86; refine (isNode_at (node_yes h3 h4) _).mono ?_; rintro e w1 ⟨rfl, rfl⟩)
    go_ret
    exact ⟨ret_i64 (chk_ok (by omega) (by omega) (by omega) (by omega)).symm, bnew w _⟩
theorem checkVersion_at {c n q : Int} (h : Vs.chk c n = q) (w : World) : Calls Tryd.prog 59 #[.agg #[.int .i64 c, .int .i64 n]] w fun e w' => e = .returned (.int .i64 q) ∧ Below w.heap.size w w' := by
  subst h; exact checkVersion_any c n w
end Go.Proofs.YtlbkcndmljlnmaaDoor
namespace Go.Proofs.YtlbkcndmljlnmaaDoor
open Go.RowKit
/-- Whether it may be. -/
def En.chk (e : En) : Int :=
  if (16 : Int) < e.k.size then 20 else if Vs.chk e.c e.n ≠ 0 then 30 else if (32 : Int) < e.v.size then 31 else bif (e.d && !e.v.toList.isEmpty) then 32 else 0
theorem En.chk_key {k : ByteArray} (c n : Int) (v : ByteArray) (d : Bool) (h : (16 : Int) < k.size) : En.chk ⟨k, c, n, v, d⟩ = 20 := by simp only [En.chk]; rw [if_pos h]
theorem En.chk_ver {k : ByteArray} {c n : Int} (v : ByteArray) (d : Bool) (h : ¬ (16 : Int) < k.size) (h2 : Vs.chk c n = 30) : En.chk ⟨k, c, n, v, d⟩ = 30 := by simp only [En.chk]; rw [if_neg h, if_pos (by rw [h2]; decide)]
theorem En.chk_val {k : ByteArray} {c n : Int} {v : ByteArray} (d : Bool) (h : ¬ (16 : Int) < k.size) (h2 : Vs.chk c n = 0) (h3 : (32 : Int) < v.size) : En.chk ⟨k, c, n, v, d⟩ = 31 := by
  simp only [En.chk]; rw [if_neg h, if_neg (by rw [h2]; decide), if_pos h3]
theorem En.chk_rest {k : ByteArray} {c n : Int} {v : ByteArray} (d : Bool) (h : ¬ (16 : Int) < k.size) (h2 : Vs.chk c n = 0) (h3 : ¬ (32 : Int) < v.size) : En.chk ⟨k, c, n, v, d⟩ = bif (d && !v.toList.isEmpty) then 32 else 0 := by
  simp only [En.chk]; rw [if_neg h, if_neg (by rw [h2]; decide), if_neg h3]
theorem Vs.chk_two (c n : Int) : Vs.chk c n = 30 ∨ Vs.chk c n = 0 := by
  unfold Vs.chk; split
  · exact .inl rfl
  · exact .inr rfl
set_option maxHeartbeats 1600000 in
theorem ichk_any (k : ByteArray) (c n : Int) (v : ByteArray) (d : Bool) (w : World) :
    Calls Tryd.prog 24 #[.agg #[.string k, .int .i64 c, .int .i64 n, .string v, .bool d]] w fun e w' => e = .returned (.int .i64 (En.chk ⟨k, c, n, v, d⟩)) ∧ Below w.heap.size w w' := by
  by_cases h1 : (16 : Int) < k.size
  · go_enter Tryd.func24, Tryd.ntmps24
    go_wp2
    go_ret
    exact ⟨ret_i64 (En.chk_key c n v d h1).symm, bnew w _⟩
  rcases Vs.chk_two c n with h2 | h2
  · have H2 := aside h2
    go_enter Tryd.func24, Tryd.ntmps24
    go_wp2_with (go_at_call 59; refine (checkVersion_at H2.out _).mono ?_; rintro e w1 ⟨rfl, b1⟩)
    go_ret
    exact ⟨ret_i64 (En.chk_ver v d (by omega) H2.out).symm, bthen (bnew w _) b1⟩
  have H2 := aside h2
  clear h2
  have X := fun o => (heap_alloc_new w o)
  have HX := aside X
  clear X
  by_cases h3 : (32 : Int) < v.size
  · go_enter Tryd.func24, Tryd.ntmps24
    go_wp2_with fail
    refine (checkVersion_at H2.out _).mono ?_
    rintro e w1 ⟨rfl, b1⟩
    have c3 : w1.cell? ⟨w.heap.size, 3, none⟩ = some (.string v) := (b1.cell (by simp)).trans (by rw [cell_of_row _ w.heap.size 3 _ _ _ (HX.out _)]; rfl)
    go_wp2
    go_ret
    exact ⟨ret_i64 (En.chk_val d (by omega) H2.out (by omega)).symm, bthen (bnew w _) b1⟩
  · cases d <;> cases h5 : v.toList.isEmpty
    all_goals
      go_enter Tryd.func24, Tryd.ntmps24
      go_wp2_with fail
      refine (checkVersion_at H2.out _).mono ?_
      rintro e w1 ⟨rfl, b1⟩
      have c3 : w1.cell? ⟨w.heap.size, 3, none⟩ = some (.string v) := (b1.cell (by simp)).trans (by rw [cell_of_row _ w.heap.size 3 _ _ _ (HX.out _)]; rfl)
      first
        | have c4 : w1.cell? ⟨w.heap.size, 4, none⟩ = some (.bool true) := (b1.cell (by simp)).trans (by rw [cell_of_row _ w.heap.size 4 _ _ _ (HX.out _)]; rfl)
        | have c4 : w1.cell? ⟨w.heap.size, 4, none⟩ = some (.bool false) := (b1.cell (by simp)).trans (by rw [cell_of_row _ w.heap.size 4 _ _ _ (HX.out _)]; rfl)
      go_wp2
      go_ret
      exact ⟨ret_i64 (by rw [En.chk_rest _ (by omega) H2.out (by omega), h5]; rfl), bthen (bnew w _) b1⟩
end Go.Proofs.YtlbkcndmljlnmaaDoor

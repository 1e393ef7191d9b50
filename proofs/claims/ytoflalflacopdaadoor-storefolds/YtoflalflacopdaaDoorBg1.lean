/-
  Bytes that a call owns: what they are as text, and small laws on rows of bytes that the walks of this seat share.
  Memory that a call has made: which blocks a step may turn (Keeps), a writer in its block (IsW), and what an append to it leaves.
  Plain mathematics: the order of keys, trees of rows, what Put makes of them.
  Memory of trees: blocks of one type that stay, a counter of joins, summaries.
  Small facts on blocks of two cells (sums), on frames, and entries as plain data.
  The table of lanes in memory; one word mixed into both lanes.
  Arguments of these laws, from their reading to plain numbers, texts, sums and entries; the table of lanes, from the row's list.
  What == says of two sums.
  Tallies: their three cells, what == says of two, and of sums within them.
  Memory of a store's tree: a meter that counts, tallies of three cells, entries of five.
  How often the join is called.
-/
import Derived.Test.YtoflalflacopdaaDoorProg
import Derived.WalkKit
import Derived.WalkSpells
import Derived.WalkLawsBesides
import Derived.OwnWalk
import Derived.Lib.UnsafeStr
import Derived.Laws.IdiomStrings
import Derived.Deep.AppendLies
import Derived.KernelRfl
import Derived.Below
import Derived.Laws.Rows
import Derived.Test.YtoflalflacopdaaDoorRows
import Derived.ProofKit
import Derived.OpenShut
import Derived.ShutString
import Derived.SizedLaws
import Derived.HandedShaped
import Derived.Lib.SmallJoins
import Derived.Deep.Slices
import Derived.Deep.Strs
import Derived.Deep.CondSized
import Derived.ChangeOld
import Derived.LaidLaws
import Derived.FnData
import Derived.Laws.Tables
import Derived.Laws.Cover2
namespace Go.Proofs.YtoflalflacopdaaDoor
open Go.RowKit
/-- A fact put aside: the walk does not look behind the name. -/
theorem aside {p : Prop} (h : p) : Hid p := h
theorem idx_str' (s : ByteArray) (k : Nat) (hk : k < s.size) (i : Int) (h : i = (k : Int)) (w : World) :
    (Instr.index 9 (.string s) (.int .i64 i)).run Tryd.prog w = .ok (.int .u8 (s[k].toNat : Int)) w := by
  subst h
  rw [run_index_string w 9 _ .i64 _ Tryd.underlying9, dif_pos ⟨by omega, by omega⟩]
  simp only [Int.toNat_natCast]
end Go.Proofs.YtoflalflacopdaaDoor
namespace Go.Proofs.YtoflalflacopdaaDoor
open Go.RowKit
/-- Of the blocks that were there only those in S may have turned; streams as they were; no block has gone. -/
structure Keeps (S : Nat → Prop) (w w' : World) : Prop where
  os : w'.os = w.os
  tape : w'.tape = w.tape
  output : w'.output = w.output
  size : w.heap.size ≤ w'.heap.size
  block : ∀ k, k < w.heap.size → ¬ S k → w'.heap[k]? = w.heap[k]?
theorem Keeps.refl (S : Nat → Prop) (w : World) : Keeps S w w := ⟨rfl, rfl, rfl, Nat.le_refl _, fun _ _ _ => rfl⟩
theorem Keeps.trans {S : Nat → Prop} {a b c : World} (h : Keeps S a b) (k : Keeps S b c) : Keeps S a c :=
  ⟨k.os.trans h.os, k.tape.trans h.tape, k.output.trans h.output, Nat.le_trans h.size k.size, fun i hi hs => (k.block i (Nat.lt_of_lt_of_le hi h.size) hs).trans (h.block i hi hs)⟩
theorem Keeps.mono {S S' : Nat → Prop} {w w' : World} (h : Keeps S w w') (hS : ∀ k, k < w.heap.size → S k → S' k) : Keeps S' w w' :=
  ⟨h.os, h.tape, h.output, h.size, fun k hk hs => h.block k hk (fun s => hs (hS k hk s))⟩
theorem Keeps.drew {S : Nat → Prop} {a w : World} (h : Keeps S a w) : Keeps S a w.drew := ⟨h.os, h.tape, h.output, h.size, h.block⟩
theorem Keeps.alloc {S : Nat → Prop} {a w : World} (h : Keeps S a w) (o : Obj) : Keeps S a (w.alloc o) :=
  h.trans ⟨rfl, rfl, rfl, by simp, fun k hk _ => Below.heap_alloc _ _ _ hk⟩
theorem Keeps.setCell {S : Nat → Prop} {a w : World} (h : Keeps S a w) {p : Addr} (hp : p.block < a.heap.size → S p.block) (u : Value) : Keeps S a (w.setCell p u) :=
  ⟨h.os, h.tape, h.output, Nat.le_trans h.size (by simp [World.setCell]), fun k hk hs => by
    have hne : k ≠ p.block := fun e => by subst e; exact hs (hp hk)
    rw [Below.heap_setCell _ _ _ _ hne]
    exact h.block k hk hs⟩
theorem Keeps.grown {S : Nat → Prop} {a w w' : World} {row : Option Nat} (h : Keeps S a w) (hg : w.grownBy w' row) (hr : ∀ k, row = some k → k < a.heap.size → S k) : Keeps S a w' :=
  ⟨hg.os.trans h.os, hg.tape.trans h.tape, hg.output.trans h.output, Nat.le_trans h.size hg.size, fun k hk hs => (hg.block k (Nat.lt_of_lt_of_le hk h.size) (fun e => hs (hr k e.symm hk))).trans (h.block k hk hs)⟩
theorem Keeps.below {S : Nat → Prop} {w w' : World} (h : Keeps S w w') {B : Nat} (hB : B ≤ w.heap.size) (hS : ∀ k, k < B → ¬ S k) : Below B w w' :=
  ⟨h.os, h.tape, h.output, h.size, fun k hk => h.block k (Nat.lt_of_lt_of_le hk hB) (hS k hk)⟩
theorem Keeps.of_below {w w' : World} (h : Below w.heap.size w w') (S : Nat → Prop) : Keeps S w w' :=
  ⟨h.os, h.tape, h.output, h.size, fun k hk _ => h.block k hk⟩
theorem Keeps.cell {S : Nat → Prop} {w w' : World} (h : Keeps S w w') {p : Addr} (hp : p.block < w.heap.size) (hn : ¬ S p.block) : w'.cell? p = w.cell? p := World.cell?_of_block (w := w) (h.block p.block hp hn)
theorem ownsRow_keep {S : Nat → Prop} {w w' : World} {base : Nat} {e : TypeId} {size : Nat} {v : Value} {n : Nat} {xs : List Value} (h : w.ownsRow base e size v n xs) (k : Keeps S w w') (hv : ∀ j, v.ownBlock = some j → ¬ S j) : w'.ownsRow base e size v n xs := by
  refine ⟨h.1, ?_⟩
  rcases h.2 with hn | ⟨g, cap, cur, rfl, hb, hg, r⟩
  · exact .inl hn
  · refine .inr ⟨g, cap, cur, rfl, hb, ?_, r⟩
    rw [k.block g (Array.getElem?_eq_some_iff.1 hg).1 (hv g rfl)]
    exact hg
theorem cell_one {w : World} {T b : Nat} {v : Value} (hh : w.heap[b]? = some (.cells #[v] T (0, 0))) : w.cell? ⟨b, 0, none⟩ = some v := by
  rw [cell_of_row w b 0 _ _ _ hh]; rfl
theorem frozen_one {w : World} {T b : Nat} {v : Value} (hh : w.heap[b]? = some (.cells #[v] T (0, 0))) : w.frozen? ⟨b, 0, none⟩ = false := frozen_of_row w b 0 _ _ hh
end Go.Proofs.YtoflalflacopdaaDoor
namespace Go.Proofs.YtoflalflacopdaaDoor
open Go.RowKit
theorem L_irrefl : ∀ x : List UInt8, Op.bytesLess x x = false
  | [] => rfl
  | a :: x => by simp [Op.bytesLess, L_irrefl x]
theorem L_total : ∀ x y : List UInt8, Op.bytesLess x y = false → Op.bytesLess y x = false → x = y
  | [], [], _, _ => rfl
  | [], _ :: _, h, _ => by simp [Op.bytesLess] at h
  | _ :: _, [], _, h => by simp [Op.bytesLess] at h
  | a :: x, b :: y, h1, h2 => by
    simp only [Op.bytesLess, Bool.or_eq_false_iff, decide_eq_false_iff_not, Bool.and_eq_false_iff] at h1 h2
    have e : a = b := by
      have g1 := h1.1; have g2 := h2.1
      simp only [UInt8.lt_iff_toNat_lt] at g1 g2
      exact UInt8.toNat_inj.1 (by omega)
    subst e
    rw [L_total x y (by simpa using h1.2) (by simpa using h2.2)]
theorem L_trans : ∀ x y z : List UInt8, Op.bytesLess x y = true → Op.bytesLess y z = true → Op.bytesLess x z = true
  | _, _, [], _, h => by cases ‹List UInt8› <;> simp [Op.bytesLess] at h
  | _, [], _ :: _, h, _ => by cases ‹List UInt8› <;> simp [Op.bytesLess] at h
  | [], _ :: _, _ :: _, _, _ => by simp [Op.bytesLess]
  | a :: x, b :: y, c :: z, h1, h2 => by
    simp only [Op.bytesLess, Bool.or_eq_true, decide_eq_true_eq, Bool.and_eq_true, beq_iff_eq, UInt8.lt_iff_toNat_lt] at h1 h2 ⊢
    rcases h1 with h1 | ⟨rfl, h1⟩
    · rcases h2 with h2 | ⟨rfl, h2⟩
      · exact .inl (by omega)
      · exact .inl h1
    · rcases h2 with h2 | ⟨rfl, h2⟩
      · exact .inl h2
      · exact .inr ⟨rfl, L_trans x y z h1 h2⟩
theorem toList_inj {a b : ByteArray} (h : a.toList = b.toList) : a = b := by
  rw [ByteArray.toList_eq, ByteArray.toList_eq] at h
  cases a; cases b
  simp only [ByteArray.mk.injEq]
  exact Array.toList_inj.1 h
/-- A key is lower than another. -/
def kLt (a b : ByteArray) : Bool := Op.bytesLess a.toList b.toList
theorem kLt_irrefl (a : ByteArray) : kLt a a = false := L_irrefl _
theorem kLt_trans {a b c : ByteArray} (h : kLt a b = true) (k : kLt b c = true) : kLt a c = true := L_trans _ _ _ h k
theorem kLt_asymm {a b : ByteArray} (h : kLt a b = true) : kLt b a = false := by
  cases k : kLt b a
  · rfl
  · have := kLt_trans h k; rw [kLt_irrefl] at this; cases this
theorem kLt_total {a b : ByteArray} (h : kLt a b = false) (k : kLt b a = false) : a = b := toList_inj (L_total _ _ h k)
theorem kLt_trans_le {a b c : ByteArray} (h : kLt a b = true) (k : kLt c b = false) : kLt a c = true := by
  cases h2 : kLt b c
  · rw [kLt_total k h2]; exact h
  · exact kLt_trans h h2
/-- A row. -/
structure Rw (β α : Type) where
  k : ByteArray
  v : β
  s : α
/-- A tree of rows. -/
inductive Tr (β α : Type) where
  | nil : Tr β α
  | node (l : Tr β α) (k : ByteArray) (v : β) (s : α) (r : Tr β α) : Tr β α
namespace Tr
variable {β α : Type}
def isNil : Tr β α → Bool
  | nil => true
  | node .. => false
def cnt : Tr β α → Nat
  | nil => 0
  | node l _ _ _ r => l.cnt + 1 + r.cnt
def ht : Tr β α → Nat
  | nil => 0
  | node l _ _ _ r => max l.ht r.ht + 1
/-- How much a tree holds: its rows, and what their summaries take. -/
def wt (z : α → Nat) : Tr β α → Nat
  | nil => 0
  | node l _ _ s r => l.wt z + 1 + z s + r.wt z
/-- The sum that a node keeps. -/
def sum (J : α → α → α) (e : α) : Tr β α → α
  | nil => e
  | node l _ _ s r =>
    if r.isNil then (if l.isNil then s else J (l.sum J e) s) else J (if l.isNil then s else J (l.sum J e) s) (r.sum J e)
def rows : Tr β α → List (Rw β α)
  | nil => []
  | node l k v s r => l.rows ++ ⟨k, v, s⟩ :: r.rows
theorem rows_length : ∀ t : Tr β α, t.rows.length = t.cnt
  | nil => rfl
  | node l k v s r => by simp [rows, cnt, rows_length l, rows_length r]; omega
theorem ht_le_cnt : ∀ t : Tr β α, t.ht ≤ t.cnt
  | nil => Nat.le_refl _
  | node l k v s r => by have := ht_le_cnt l; have := ht_le_cnt r; simp only [ht, cnt]; omega
theorem cnt_le_wt (z : α → Nat) : ∀ t : Tr β α, t.cnt ≤ t.wt z
  | nil => Nat.le_refl _
  | node l k v s r => by have := cnt_le_wt z l; have := cnt_le_wt z r; simp only [wt, cnt]; omega
theorem sum_le {z : α → Nat} {J : α → α → α} (hJ : ∀ a b, z (J a b) ≤ z a + z b) (e : α) : ∀ t : Tr β α, t.isNil = false → z (t.sum J e) ≤ t.wt z
  | nil, h => by cases h
  | node l k v s r, _ => by
    have hl : l.isNil = false → z (l.sum J e) ≤ l.wt z := sum_le hJ e l
    have hr : r.isNil = false → z (r.sum J e) ≤ r.wt z := sum_le hJ e r
    cases h1 : l.isNil <;> cases h2 : r.isNil <;> simp only [sum, wt, h1, h2, if_true, if_false, Bool.false_eq_true]
    · have := hJ (J (l.sum J e) s) (r.sum J e); have := hJ (l.sum J e) s; have := hl h1; have := hr h2; omega
    · have := hJ (l.sum J e) s; have := hl h1; omega
    · have := hJ s (r.sum J e); have := hr h2; omega
    · omega
/-- A node turned to the right. -/
def turnR (k : ByteArray) (v : β) (s : α) (l r : Tr β α) : Tr β α :=
  match l with
  | nil => node nil k v s r
  | node ll lk lv ls lr =>
    if lr.ht ≤ ll.ht then node ll lk lv ls (node lr k v s r) else
      match lr with
      | nil => node (node ll lk lv ls nil) k v s r
      | node a ik iv is b => node (node ll lk lv ls a) ik iv is (node b k v s r)
def turnL (k : ByteArray) (v : β) (s : α) (l r : Tr β α) : Tr β α :=
  match r with
  | nil => node l k v s nil
  | node rl rk rv rs rr =>
    if rl.ht ≤ rr.ht then node (node l k v s rl) rk rv rs rr else
      match rl with
      | nil => node l k v s (node nil rk rv rs rr)
      | node a ik iv is b => node (node l k v s a) ik iv is (node b rk rv rs rr)
def level (k : ByteArray) (v : β) (s : α) (l r : Tr β α) : Tr β α :=
  if l.ht = r.ht + 2 then turnR k v s l r else if r.ht = l.ht + 2 then turnL k v s l r else node l k v s r
theorem level_cases {P : Tr β α → Prop} (k : ByteArray) (v : β) (s : α) (l r : Tr β α)
    (h0 : ¬ l.ht = r.ht + 2 → ¬ r.ht = l.ht + 2 → P (node l k v s r))
    (h1 : ∀ ll lk lv ls lr, l = node ll lk lv ls lr → l.ht = r.ht + 2 → lr.ht ≤ ll.ht → P (node ll lk lv ls (node lr k v s r)))
    (h2 : ∀ ll lk lv ls a ik iv is b, l = node ll lk lv ls (node a ik iv is b) → l.ht = r.ht + 2 → ll.ht < (node a ik iv is b).ht → P (node (node ll lk lv ls a) ik iv is (node b k v s r)))
    (h3 : ∀ rl rk rv rs rr, r = node rl rk rv rs rr → r.ht = l.ht + 2 → rl.ht ≤ rr.ht → P (node (node l k v s rl) rk rv rs rr))
    (h4 : ∀ a ik iv is b rk rv rs rr, r = node (node a ik iv is b) rk rv rs rr → r.ht = l.ht + 2 → rr.ht < (node a ik iv is b).ht → P (node (node l k v s a) ik iv is (node b rk rv rs rr))) : P (level k v s l r) := by
  unfold level
  split
  · rename_i h
    match l, h with
    | node ll lk lv ls lr, h =>
      simp only [turnR]
      split
      · rename_i g; exact h1 _ _ _ _ _ rfl h g
      · rename_i g
        match lr, h, g with
        | nil, h, g => simp [ht] at g
        | node a ik iv is b, h, g => exact h2 _ _ _ _ _ _ _ _ _ rfl h (by omega)
  · rename_i hn
    split
    · rename_i h
      match r, h with
      | node rl rk rv rs rr, h =>
        simp only [turnL]
        split
        · rename_i g; exact h3 _ _ _ _ _ rfl h g
        · rename_i g
          match rl, h, g with
          | nil, h, g => simp [ht] at g
          | node a ik iv is b, h, g => exact h4 _ _ _ _ _ _ _ _ _ rfl h (by omega)
    · rename_i h; exact h0 hn h
theorem rows_level (k : ByteArray) (v : β) (s : α) (l r : Tr β α) : (level k v s l r).rows = l.rows ++ ⟨k, v, s⟩ :: r.rows := by
  apply level_cases (P := fun t => t.rows = l.rows ++ ⟨k, v, s⟩ :: r.rows)
  · intros; rfl
  · rintro _ _ _ _ _ rfl _ _; simp [rows]
  · rintro _ _ _ _ _ _ _ _ _ rfl _ _; simp [rows]
  · rintro _ _ _ _ _ rfl _ _; simp [rows]
  · rintro _ _ _ _ _ _ _ _ _ rfl _ _; simp [rows]
theorem wt_level (z : α → Nat) (k : ByteArray) (v : β) (s : α) (l r : Tr β α) : (level k v s l r).wt z = l.wt z + 1 + z s + r.wt z := by
  apply level_cases (P := fun t => t.wt z = l.wt z + 1 + z s + r.wt z)
  · intros; rfl
  · rintro _ _ _ _ _ rfl _ _; simp only [wt]; omega
  · rintro _ _ _ _ _ _ _ _ _ rfl _ _; simp only [wt]; omega
  · rintro _ _ _ _ _ rfl _ _; simp only [wt]; omega
  · rintro _ _ _ _ _ _ _ _ _ rfl _ _; simp only [wt]; omega
/-- At each node the sides' heights differ by at most one. -/
def bal : Tr β α → Prop
  | nil => True
  | node l _ _ _ r => l.bal ∧ r.bal ∧ l.ht ≤ r.ht + 1 ∧ r.ht ≤ l.ht + 1
theorem bal_level {k : ByteArray} {v : β} {s : α} {l r : Tr β α} (hl : l.bal) (hr : r.bal) (h1 : l.ht ≤ r.ht + 2) (h2 : r.ht ≤ l.ht + 2) :
    (level k v s l r).bal ∧ (level k v s l r).ht ≤ max l.ht r.ht + 1 ∧ max l.ht r.ht ≤ (level k v s l r).ht ∧ (l.ht ≤ r.ht + 1 → r.ht ≤ l.ht + 1 → (level k v s l r).ht = max l.ht r.ht + 1) := by
  apply level_cases (P := fun t => t.bal ∧ t.ht ≤ max l.ht r.ht + 1 ∧ max l.ht r.ht ≤ t.ht ∧ (l.ht ≤ r.ht + 1 → r.ht ≤ l.ht + 1 → t.ht = max l.ht r.ht + 1))
  · intro a b; simp only [bal, ht]; exact ⟨⟨hl, hr, by omega, by omega⟩, by omega, by omega, fun _ _ => by first | rfl | trivial⟩
  · rintro ll lk lv ls lr rfl e g
    obtain ⟨a, b, c, d⟩ := hl
    simp only [bal, ht] at *
    exact ⟨⟨a, ⟨b, hr, by omega, by omega⟩, by omega, by omega⟩, by omega, by omega, by omega⟩
  · rintro ll lk lv ls a ik iv is b rfl e g
    obtain ⟨p, ⟨q1, q2, q3, q4⟩, c, d⟩ := hl
    simp only [bal, ht] at *
    exact ⟨⟨⟨p, q1, by omega, by omega⟩, ⟨q2, hr, by omega, by omega⟩, by omega, by omega⟩, by omega, by omega, by omega⟩
  · rintro ll lk lv ls lr rfl e g
    obtain ⟨a, b, c, d⟩ := hr
    simp only [bal, ht] at *
    exact ⟨⟨⟨hl, a, by omega, by omega⟩, b, by omega, by omega⟩, by omega, by omega, by omega⟩
  · rintro a ik iv is b rk rv rs rr rfl e g
    obtain ⟨⟨q1, q2, q3, q4⟩, p, c, d⟩ := hr
    simp only [bal, ht] at *
    exact ⟨⟨⟨hl, q1, by omega, by omega⟩, ⟨q2, p, by omega, by omega⟩, by omega, by omega⟩, by omega, by omega, by omega⟩
def put (k : ByteArray) (v : β) (s : α) : Tr β α → Tr β α
  | nil => node nil k v s nil
  | node l k' v' s' r =>
    if kLt k k' then level k' v' s' (put k v s l) r else if kLt k' k then level k' v' s' l (put k v s r) else node l k v s r
theorem bal_put (k : ByteArray) (v : β) (s : α) : ∀ t : Tr β α, t.bal → (put k v s t).bal ∧ t.ht ≤ (put k v s t).ht ∧ (put k v s t).ht ≤ t.ht + 1
  | nil, _ => by simp [put, bal, ht]
  | node l k' v' s' r, h => by
    obtain ⟨hl, hr, h1, h2⟩ := h
    simp only [put]
    split
    · obtain ⟨a, b, c⟩ := bal_put k v s l hl
      obtain ⟨p, q, r1, r2⟩ := bal_level (k := k') (v := v') (s := s') a hr (by omega) (by omega)
      refine ⟨p, ?_, ?_⟩
      · by_cases g : (put k v s l).ht ≤ r.ht + 1
        · rw [r2 g (by omega)]; simp only [ht]; omega
        · simp only [ht]; omega
      · by_cases g : (put k v s l).ht ≤ r.ht + 1
        · rw [r2 g (by omega)]; simp only [ht]; omega
        · simp only [ht]; omega
    · split
      · obtain ⟨a, b, c⟩ := bal_put k v s r hr
        obtain ⟨p, q, r1, r2⟩ := bal_level (k := k') (v := v') (s := s') hl a (by omega) (by omega)
        refine ⟨p, ?_, ?_⟩
        · by_cases g : (put k v s r).ht ≤ l.ht + 1
          · rw [r2 (by omega) g]; simp only [ht]; omega
          · simp only [ht]; omega
        · by_cases g : (put k v s r).ht ≤ l.ht + 1
          · rw [r2 (by omega) g]; simp only [ht]; omega
          · simp only [ht]; omega
      · exact ⟨⟨hl, hr, h1, h2⟩, Nat.le_refl _, Nat.le_succ _⟩
theorem bal_cnt : ∀ t : Tr β α, t.bal → 2 ^ (t.ht / 2) ≤ t.cnt + 1
  | nil, _ => by simp [ht, cnt]
  | node l k v s r, h => by
    obtain ⟨hl, hr, h1, h2⟩ := h
    have a := bal_cnt l hl
    have b := bal_cnt r hr
    simp only [ht, cnt]
    by_cases h0 : max l.ht r.ht = 0
    · rw [h0]; simp
    · have e : (max l.ht r.ht + 1) / 2 = (max l.ht r.ht - 1) / 2 + 1 := by omega
      rw [e, Nat.pow_succ]
      have c : 2 ^ ((max l.ht r.ht - 1) / 2) ≤ 2 ^ (l.ht / 2) := Nat.pow_le_pow_right (by omega) (by omega)
      have d : 2 ^ ((max l.ht r.ht - 1) / 2) ≤ 2 ^ (r.ht / 2) := Nat.pow_le_pow_right (by omega) (by omega)
      omega
theorem bal_ht {t : Tr β α} (h : t.bal) {n : Nat} (hn : t.cnt + 1 ≤ 2 ^ n) : t.ht ≤ 2 * n + 1 := by
  have := bal_cnt t h
  have h2 : t.ht / 2 ≤ n := by
    by_cases g : t.ht / 2 ≤ n
    · exact g
    · have : 2 ^ (n + 1) ≤ 2 ^ (t.ht / 2) := Nat.pow_le_pow_right (by omega) (by omega)
      rw [Nat.pow_succ] at this
      have := Nat.one_le_two_pow (n := n)
      omega
  omega
end Tr
end Go.Proofs.YtoflalflacopdaaDoor
namespace Go.Proofs.YtoflalflacopdaaDoor
open Go.RowKit
set_option linter.unusedVariables false
theorem bthen {w w1 w2 : World} (h : Below w.heap.size w w1) (h2 : Below w1.heap.size w1 w2) : Below w.heap.size w w2 := h.trans (h2.mono h.size)
theorem bnew (w : World) (o : Obj) : Below w.heap.size w (w.alloc o) := (Below.refl _ w).alloc (Nat.le_refl _) _
theorem blk_on {w w' : World} {i : Nat} {o : Obj} (h : w.heap[i]? = some o) (b : Below w.heap.size w w') : w'.heap[i]? = some o := (b.block i (Array.getElem?_eq_some_iff.1 h).1).trans h
theorem lt_of_blk {w : World} {i : Nat} {o : Obj} (h : w.heap[i]? = some o) : i < w.heap.size := (Array.getElem?_eq_some_iff.1 h).1
theorem blk_keep {S : Nat → Prop} {w w' : World} {i : Nat} {o : Obj} (h : w.heap[i]? = some o) (k : Keeps S w w') (hn : ¬ S i) : w'.heap[i]? = some o := (k.block i (lt_of_blk h) hn).trans h
/-- Blocks of the type T stay as they are. -/
def Stay (T : TypeId) (w w' : World) : Prop := ∀ (b : Nat) (cs : Array Value), w.heap[b]? = some (.cells cs T (0, 0)) → w'.heap[b]? = some (.cells cs T (0, 0))
theorem Stay.refl (T : TypeId) (w : World) : Stay T w w := fun _ _ h => h
theorem Stay.trans {T : TypeId} {a b c : World} (h : Stay T a b) (k : Stay T b c) : Stay T a c := fun _ _ e => k _ _ (h _ _ e)
theorem Stay.drew {T : TypeId} {a b : World} (h : Stay T a b) : Stay T a b.drew := fun _ _ e => h _ _ e
theorem Stay.alloc {T : TypeId} {a b : World} (h : Stay T a b) (o : Obj) : Stay T a (b.alloc o) := fun _ _ e => blk_on (h _ _ e) (bnew _ _)
theorem Stay.setCell {T : TypeId} {a b : World} (h : Stay T a b) {p : Addr} (u : Value) (hp : ∀ cs, b.heap[p.block]? ≠ some (.cells cs T (0, 0))) : Stay T a (b.setCell p u) := fun i _ e => by
  rw [heap_setCell_other]
  · exact h _ _ e
  · rintro rfl; exact hp _ (h _ _ e)
theorem Stay.keeps {T : TypeId} {S : Nat → Prop} {a b c : World} (h : Stay T a b) (k : Keeps S b c) (hS : ∀ i cs, b.heap[i]? = some (.cells cs T (0, 0)) → ¬ S i) : Stay T a c := fun i _ e => blk_keep (h _ _ e) k (hS _ _ (h _ _ e))
theorem Stay.grown {T : TypeId} {a b c : World} {row : Option Nat} (h : Stay T a b) (hg : b.grownBy c row) (hrow : ∀ r, row = some r → ∀ cs, b.heap[r]? ≠ some (.cells cs T (0, 0))) : Stay T a c := fun i _ e => by
  have e1 := h _ _ e
  rw [hg.block i (lt_of_blk e1) (fun e2 => hrow i e2.symm _ e1)]
  exact e1
/-- The counter's block. -/
def OnC (c : Option Nat) : Nat → Prop := fun k => c = some k
theorem str_gtr {a b : ByteArray} {q : Bool} (h : (!(Op.bytesLess a.toList b.toList || a.toList == b.toList)) = q) : binOp .gtr 9 (.string a) (.string b) = pure (.bool q) := by
  simp only [binOp, Op.stringOp, h]
theorem kLt_same {a b : ByteArray} (h : kLt a b = false) (k : kLt b a = false) : (!(Op.bytesLess a.toList b.toList || a.toList == b.toList)) = false := by
  rw [kLt_total h k]; simp
theorem kLt_over {a b : ByteArray} (h : kLt b a = true) : (!(Op.bytesLess a.toList b.toList || a.toList == b.toList)) = true := by
  have h1 := kLt_asymm h
  have h2 : a.toList ≠ b.toList := fun e => by rw [toList_inj e, kLt_irrefl] at h; cases h
  unfold kLt at h1
  simp [h1, h2]
/-- A Map. -/
structure Mp where
  A : UInt64
  B : UInt64
def Mp.a (m : Mp) : Int := (m.A.toNat : Int)
def Mp.b (m : Mp) : Int := (m.B.toNat : Int)
theorem u64_add (x y : UInt64) : IntKind.u64.wrap ((x.toNat : Int) + (y.toNat : Int)) = ((x + y).toNat : Int) := by
  rw [IntKind.wrap_u64, UInt64.toNat_add]; omega
end Go.Proofs.YtoflalflacopdaaDoor
namespace Go.Proofs.YtoflalflacopdaaDoor
open Go.RowKit
set_option linter.unusedVariables false
/-- An entry, plain. -/
structure En where
  k : ByteArray
  c : Int
  n : Int
  v : ByteArray
  d : Bool
theorem ret_bool {a b : Bool} (h : a = b) : Ending.returned (.bool a) = .returned (.bool b) := by rw [h]
theorem cell_in {W W' : World} {p : Addr} {v : Value} (h : W.cell? p = some v) (b : Below W.heap.size W W') : W'.cell? p = some v :=
  (World.cell?_of_block (w := W) (b.block p.block (World.block_lt_of_cell? W _ h))).trans h
/-- The two cells of a sum's block. -/
theorem pair {w : World} {i : Nat} {a b : Value} {T : TypeId} (h : w.heap[i]? = some (.cells #[a, b] T (0, 0))) :
    w.cell? ⟨i, 0, none⟩ = some a ∧ w.cell? ⟨i, 1, none⟩ = some b ∧ w.frozen? ⟨i, 0, none⟩ = false ∧ w.frozen? ⟨i, 1, none⟩ = false :=
  ⟨by simp [World.cell?, h], by simp [World.cell?, h], frozen_of_row w i 0 _ _ h, frozen_of_row w i 1 _ _ h⟩
/-- What is kept of the world in a loop over a sum's two elements: own blocks from n on. -/
structure Two (w wr : World) (i : Nat) (a b : Int) : Prop where
  below : Below w.heap.size w wr
  low : w.heap.size ≤ i
  blk : wr.heap[i]? = some (.cells #[.int .u64 a, .int .u64 b] 38 (0, 0))
end Go.Proofs.YtoflalflacopdaaDoor
namespace Go.Proofs.YtoflalflacopdaaDoor
open Go.RowKit
set_option linter.unusedVariables false
/-- The table of lanes, cell for cell. -/
structure Lanes (w : World) : Prop where
  c0 : w.cell? ⟨0, 0, none⟩ = some (.int .u64 2611923443488327891)
  c1 : w.cell? ⟨0, 1, none⟩ = some (.int .u64 11400714819323198485)
  c2 : w.cell? ⟨0, 2, none⟩ = some (.int .u64 29)
  c3 : w.cell? ⟨0, 3, none⟩ = some (.int .u64 1376283091369227076)
  c4 : w.cell? ⟨0, 4, none⟩ = some (.int .u64 14029467366897019727)
  c5 : w.cell? ⟨0, 5, none⟩ = some (.int .u64 32)
theorem Lanes.keep {w w' : World} (h : Lanes w) (b : Below w.heap.size w w') : Lanes w' :=
  ⟨cell_in h.c0 b, cell_in h.c1 b, cell_in h.c2 b, cell_in h.c3 b, cell_in h.c4 b, cell_in h.c5 b⟩
theorem Lanes.pos {w : World} (h : Lanes w) : 0 < w.heap.size := World.block_lt_of_cell? w _ h.c0
/-- The memory in the loop over a sum's elements. -/
def mix2 (w : World) (x0 x1 r0 r1 : Int) : World :=
  (w.alloc (.cells #[.int .u64 x0, .int .u64 x1] 38)).alloc (.cells #[.int .u64 r0, .int .u64 r1] 38)
theorem mix2_below (w : World) (x0 x1 r0 r1 : Int) : Below w.heap.size w (mix2 w x0 x1 r0 r1) := (bnew w _).alloc (by simp) _
def MixRel (w : World) (a0 a1 s0 s1 : Int) (i : Value) (wr : World) : Prop :=
  (i = .int .i64 0 ∧ wr = mix2 w a0 a1 0 0) ∨ (i = .int .i64 1 ∧ wr = (mix2 w s0 a1 0 0).drew.drew) ∨ (i = .int .i64 2 ∧ wr = (mix2 w s0 s1 0 0).drew.drew.drew.drew)
/-- One word mixed into a lane. -/
def mixI (f : Int) (s : Nat) (x u : Int) : Int :=
  bits .xor .u64 (IntKind.u64.wrap (bits .xor .u64 x u * f)) (IntKind.u64.wrap (bits .xor .u64 x u * f) / 2 ^ s)
set_option maxHeartbeats 1600000 in
set_option maxRecDepth 100000 in
theorem mixed_any (a0 a1 u : Int) (w : World) (L : Lanes w) :
    Calls Tryd.prog 106 #[.agg #[.int .u64 a0, .int .u64 a1], .int .u64 u] w fun e w' => e = .returned (.agg #[.int .u64 (mixI 11400714819323198485 29 a0 u), .int .u64 (mixI 14029467366897019727 32 a1 u)]) ∧ Below w.heap.size w w' := by
  have h0 := L.pos
  obtain ⟨c0, c1, c2, c3, c4, c5⟩ := L
  go_enter Tryd.func106, Tryd.ntmps106
  go_wp2
  go_loopw [6] (fun i wr => MixRel w a0 a1 (mixI 11400714819323198485 29 a0 u) (mixI 14029467366897019727 32 a1 u) i wr) (fun i _ => 2 - (intOf i).toNat)
  case atStart => exact .inl ⟨rfl, rfl⟩
  case round =>
    obtain ⟨rfl, rfl⟩ | ⟨rfl, rfl⟩ | ⟨rfl, rfl⟩ := hrel
    · unfold mix2
      go_wp2
      go_region
      go_wp2
      go_region
      go_wp2
      go_roundw
      case rel => exact .inr (.inl ⟨rfl, rfl⟩)
      case measure => simp [intOf]
    · unfold mix2
      go_wp2
      go_region
      go_wp2
      go_region
      go_wp2
      go_roundw
      case rel => exact .inr (.inr ⟨rfl, rfl⟩)
      case measure => simp [intOf]
    · unfold mix2
      go_wp2
      exact bodyPost_ret (v := .agg #[.int .u64 (mixI 11400714819323198485 29 a0 u), .int .u64 (mixI 14029467366897019727 32 a1 u)]) (by simp [results, Tryd.results106, go_sem]) rfl ⟨rfl, (mix2_below w _ _ _ _).drew.drew.drew.drew⟩
end Go.Proofs.YtoflalflacopdaaDoor
namespace Go.Proofs.YtoflalflacopdaaDoor
open Go.ChangeShapes Go.WideShapes Go.ChangeAt Go.RowKit
set_option linter.unusedVariables false
theorem own : ownKnob Tryd.prog.godebug = none := by kernel_rfl
theorem laidOut : laidOutB Tryd.prog = true := by kernel_rfl
theorem cellsVer : Tryd.prog.cellsOf 31 = 2 := by kernel_rfl
theorem cellsEnt : Tryd.prog.cellsOf 33 = 5 := by kernel_rfl
theorem bytesEnt : Tryd.prog.bytesOf 33 = 56 := by kernel_rfl
theorem cellsInt : Tryd.prog.cellsOf 3 = 1 := by kernel_rfl
theorem cellsStr : Tryd.prog.cellsOf 9 = 1 := by kernel_rfl
theorem cellsBool : Tryd.prog.cellsOf 4 = 1 := by kernel_rfl
theorem cellsU64 : Tryd.prog.cellsOf 36 = 1 := by kernel_rfl
theorem cellsUint : Tryd.prog.cellsOf 173 = 1 := by kernel_rfl
theorem cellsLane : Tryd.prog.cellsOf 175 = 3 := by kernel_rfl
theorem cellsLanes : Tryd.prog.cellsOf 176 = 6 := by kernel_rfl
theorem gLanes : Tryd.prog.globalNamed "tideline/mix.lanes" = some 0 := by kernel_rfl
theorem gLanesType : (Tryd.prog.globals[0]?).map (·.type) = some 176 := by kernel_rfl
variable {H : Type} {enc : TypeId × Value → H} {W : World}
set_option maxRecDepth 100000 in
/-- One row of the table, from its reading. -/
theorem lane_cells {b0 : Nat} {sp : Nat → Bool} {held : Bool} {fuel : Nat} {cs : List Value} {a f s : Int} {p : List MemPlace} (h : DataW.trod enc Tryd.prog W b0 sp held fuel 175 cs = some ((.agg [.lit (.int .u64 a), .lit (.int .u64 f), .lit (.int .u64 s)] : DataW H), p)) :
    cs = [.int .u64 a, .int .u64 f, .int .u64 s] := by
  obtain ⟨y0, y1, y2, m, hx, hl, h0, h1, h2⟩ := Deep.trod_struct3 Tryd.underlying175 h
  rw [cellsLane] at hl
  match cs, hl with
  | [v0, v1, v2], _ =>
    simp [cellsU64, cellsUint] at h0 h1 h2
    obtain ⟨z0, e0, rfl, -⟩ := DataW.trod_int Tryd.underlying36 h0
    obtain ⟨z1, e1, rfl, -⟩ := DataW.trod_int Tryd.underlying36 h1
    obtain ⟨z2, e2, rfl, -⟩ := DataW.trod_int Tryd.underlying173 h2
    simp only [List.cons.injEq, and_true] at e0 e1 e2
    subst e0 e1 e2
    simp at hx
    obtain ⟨⟨rfl, rfl, rfl⟩, -⟩ := hx
    rfl
set_option maxRecDepth 100000 in
theorem lanes_of {W : World} (h : laidMet Tryd.prog [("tideline/mix.lanes", Rows.laid_tideline_mix_lanes)] W) : Lanes W := by
  obtain ⟨ps, ⟨g', t', cs, fuel, p, q, hg', ht', hvar, hd, _, _⟩, _⟩ := h
  obtain rfl := Option.some.inj (gLanes.symm.trans hg')
  obtain rfl := Option.some.inj (gLanesType.symm.trans ht')
  obtain ⟨xs, m, _, hx, hl, hxl, hel⟩ := DataW.trod_array Tryd.underlying176 hd
  rw [cellsLanes] at hl
  rw [cellsLane] at hel
  match xs, hxl with
  | [x0, x1], _ =>
    have g0 := hel 0 (by omega)
    have g1 := hel 1 (by omega)
    simp only [Rows.laid_tideline_mix_lanes, Prod.mk.injEq, List.map_cons, List.map_nil, DataW.agg.injEq, List.cons.injEq, and_true] at hx
    obtain ⟨⟨q0, q1⟩, -⟩ := hx
    have e0 := lane_cells (p := x0.2) (g0.trans (by rw [List.getElem?_cons_zero, q0]))
    have e1 := lane_cells (p := x1.2) (g1.trans (by rw [List.getElem?_cons_succ, List.getElem?_cons_zero, q1]))
    obtain ⟨l⟩ := cs
    match l, hl with
    | [v0, v1, v2, v3, v4, v5], _ =>
      simp at e0 e1
      obtain ⟨rfl, rfl, rfl⟩ := e0
      obtain ⟨rfl, rfl, rfl⟩ := e1
      exact ⟨World.var?_cell gLanes hvar 0, World.var?_cell gLanes hvar 1, World.var?_cell gLanes hvar 2, World.var?_cell gLanes hvar 3, World.var?_cell gLanes hvar 4, World.var?_cell gLanes hvar 5⟩
end Go.Proofs.YtoflalflacopdaaDoor
namespace Go.Proofs.YtoflalflacopdaaDoor
open Go.RowKit
end Go.Proofs.YtoflalflacopdaaDoor
namespace Go.Proofs.YtoflalflacopdaaDoor
open Go.RowKit
set_option linter.unusedVariables false
/-- The three cells of a tally's block. -/
theorem tri {w : World} {i : Nat} {a b c : Value} {T : TypeId} (h : w.heap[i]? = some (.cells #[a, b, c] T (0, 0))) :
    w.cell? ⟨i, 0, none⟩ = some a ∧ w.cell? ⟨i, 1, none⟩ = some b ∧ w.cell? ⟨i, 2, none⟩ = some c ∧ w.frozen? ⟨i, 0, none⟩ = false ∧ w.frozen? ⟨i, 1, none⟩ = false ∧ w.frozen? ⟨i, 2, none⟩ = false :=
  ⟨by simp [World.cell?, h], by simp [World.cell?, h], by simp [World.cell?, h], frozen_of_row w i 0 _ _ h, frozen_of_row w i 1 _ _ h, frozen_of_row w i 2 _ _ h⟩
/-- A store into another block. -/
theorem cell_apart {X : World} {i k : Nat} {p : Addr} {u v : Value} (h : X.cell? p = some v) (hne : p.block ≠ i) : (X.setCell ⟨i, k, none⟩ u).cell? p = some v :=
  (World.cell?_setCell_other _ _ _ _ (fun e => hne (by rw [← e]))).trans h
theorem sum_in9 (a b c d : Int) (w : World) : (Op.equalIn 9999 38 (.agg #[.int .u64 a, .int .u64 b]) (.agg #[.int .u64 c, .int .u64 d])).run Tryd.prog w = .ok (a == c && b == d) w := by
  have u3 := Tryd.underlying36
  have a3 := Tryd.isAgg36
  have z3 := Tryd.sizeOf36
  rw [show (9999 : Nat) = 9998 + 1 from rfl, Op.equalIn]
  simp only [Sem.run_bind, run_underlying Tryd.underlying38, Result.andThen_ok]
  simp only [Std.Legacy.Range.forIn_eq_forIn_range', Std.Legacy.Range.size, Nat.sub_zero, Nat.add_sub_cancel, Nat.div_one, List.range'_succ, List.range'_zero, List.forIn_cons, List.forIn_nil]
  go_simp
  by_cases h1 : a = c <;> by_cases h2 : b = d <;> simp [h1, h2]
theorem tal_in (n a b m c d : Int) (w : World) : (Op.equalIn 10000 40 (.agg #[.int .i64 n, .int .u64 a, .int .u64 b]) (.agg #[.int .i64 m, .int .u64 c, .int .u64 d])).run Tryd.prog w = .ok (n == m && (a == c && b == d)) w := by
  have e := sum_in9 a b c d w
  rw [show (10000 : Nat) = 9999 + 1 from rfl]
  go_simp
  by_cases h1 : n = m <;> by_cases h2 : a = c <;> by_cases h3 : b = d <;> simp [h1, h2, h3]
theorem tal_run (n a b m c d : Int) (w : World) : (binOp .eql 40 (.agg #[.int .i64 n, .int .u64 a, .int .u64 b]) (.agg #[.int .i64 m, .int .u64 c, .int .u64 d])).run Tryd.prog w = .ok (.bool (n == m && (a == c && b == d))) w := by
  rw [run_eql_struct, tal_in]; rfl
theorem tal_ne_run (n a b m c d : Int) (w : World) : (binOp .neq 40 (.agg #[.int .i64 n, .int .u64 a, .int .u64 b]) (.agg #[.int .i64 m, .int .u64 c, .int .u64 d])).run Tryd.prog w = .ok (.bool (!(n == m && (a == c && b == d)))) w := by
  rw [run_neq_struct, tal_in]; rfl
theorem tal_same (n a b : Int) (w : World) : (binOp .eql 40 (.agg #[.int .i64 n, .int .u64 a, .int .u64 b]) (.agg #[.int .i64 n, .int .u64 a, .int .u64 b])).run Tryd.prog w = .ok (.bool true) w := by
  rw [tal_run]; simp
theorem tal_ne_same (n a b : Int) (w : World) : (binOp .neq 40 (.agg #[.int .i64 n, .int .u64 a, .int .u64 b]) (.agg #[.int .i64 n, .int .u64 a, .int .u64 b])).run Tryd.prog w = .ok (.bool false) w := by
  rw [tal_ne_run]; simp
end Go.Proofs.YtoflalflacopdaaDoor
namespace Go.Proofs.YtoflalflacopdaaDoor
open Go.RowKit
set_option linter.unusedVariables false
/-- How often a join was called: the meter in the block c says so. -/
def CntE (c : Option Nat) (n : Nat) (w : World) : Prop := ∀ b : Nat, c = some b → w.heap[b]? = some (.cells #[.int .i64 (IntKind.i64.wrap (n : Int))] 184 (0, 0))
theorem CntE.drew {c : Option Nat} {n : Nat} {w : World} (h : CntE c n w) : CntE c n w.drew := h
theorem CntE.alloc {c : Option Nat} {n : Nat} {w : World} (h : CntE c n w) (o : Obj) : CntE c n (w.alloc o) := fun b e => blk_on (h b e) (bnew _ _)
theorem CntE.keep {S : Nat → Prop} {c : Option Nat} {n : Nat} {w w' : World} (h : CntE c n w) (k : Keeps S w w') (hS : ∀ b, c = some b → ¬ S b) : CntE c n w' := fun b e => blk_keep (h b e) k (hS b e)
theorem CntE.below {c : Option Nat} {n : Nat} {w w' : World} (h : CntE c n w) (k : Below w.heap.size w w') : CntE c n w' := fun b e => blk_on (h b e) k
theorem CntE.apart {c : Option Nat} {n : Nat} {w : World} (h : CntE c n w) {i : Nat} {cs : Array Value} {T : TypeId} (hi : w.heap[i]? = some (.cells cs T (0, 0))) (hT : T ≠ 184) : ¬ OnC c i := fun e => by
  have := h i e
  rw [hi] at this
  injection this with this
  injection this with _ e2
  exact hT e2
theorem CntE.setCell {c : Option Nat} {n : Nat} {w : World} (h : CntE c n w) {p : Addr} (u : Value) (hp : ¬ OnC c p.block) : CntE c n (w.setCell p u) := fun b e => by
  rw [heap_setCell_other]
  · exact h b e
  · intro e2; exact hp (by show c = some p.block; rw [e, e2])
theorem CntE.lt {c : Option Nat} {n : Nat} {w : World} (h : CntE c n w) {i : Nat} (hi : w.heap.size ≤ i) : ¬ OnC c i := fun e => by
  have := lt_of_blk (h i e)
  omega
theorem Stay.onE {T : TypeId} {a b d : World} {c : Option Nat} {n : Nat} (h : Stay T a b) (hc : CntE c n b) (k : Keeps (OnC c) b d) (hT : T ≠ 184) : Stay T a d := h.keeps k (fun _ _ e => hc.apart e hT)
/-- A tally. -/
structure Tl where
  N : Int64
  A : UInt64
  B : UInt64
def Tl.n (t : Tl) : Int := t.N.toInt
def Tl.a (t : Tl) : Int := (t.A.toNat : Int)
def Tl.b (t : Tl) : Int := (t.B.toNat : Int)
def tZero : Tl := ⟨0, 0, 0⟩
def tJoin (f g : Tl) : Tl := ⟨f.N + g.N, f.A + g.A, f.B + g.B⟩
/-- What a tally takes beside its row: nothing that is counted. -/
def tSz (_ : Tl) : Nat := 0
theorem tSz_le (a b : Tl) : tSz (tJoin a b) ≤ tSz a + tSz b := Nat.le_refl _
theorem tZero_n : tZero.n = 0 := rfl
theorem tZero_a : tZero.a = 0 := rfl
theorem tZero_b : tZero.b = 0 := rfl
theorem tJoin_n (f g : Tl) : IntKind.i64.wrap (f.n + g.n) = (tJoin f g).n := by
  show _ = (f.N + g.N).toInt
  rw [Int64.toInt_add, IntKind.wrap_i64, Int.bmod_def]
  unfold Tl.n
  split <;> omega
theorem tJoin_a (f g : Tl) : IntKind.u64.wrap (f.a + g.a) = (tJoin f g).a := u64_add _ _
theorem tJoin_b (f g : Tl) : IntKind.u64.wrap (f.b + g.b) = (tJoin f g).b := u64_add _ _
theorem tJoin_assoc (a b c : Tl) : tJoin (tJoin a b) c = tJoin a (tJoin b c) := by
  simp only [tJoin, Tl.mk.injEq]
  exact ⟨Int64.add_assoc _ _ _, UInt64.add_assoc _ _ _, UInt64.add_assoc _ _ _⟩
/-- An entry that is none. -/
def eNone : En := ⟨⟨#[]⟩, 0, 0, ⟨#[]⟩, false⟩
/-- The five cells of an entry's block. -/
theorem penta {w : World} {i : Nat} {a b c d e : Value} {T : TypeId} (h : w.heap[i]? = some (.cells #[a, b, c, d, e] T (0, 0))) :
    w.cell? ⟨i, 0, none⟩ = some a ∧ w.cell? ⟨i, 1, none⟩ = some b ∧ w.cell? ⟨i, 2, none⟩ = some c ∧ w.cell? ⟨i, 3, none⟩ = some d ∧ w.cell? ⟨i, 4, none⟩ = some e ∧ w.frozen? ⟨i, 0, none⟩ = false ∧ w.frozen? ⟨i, 1, none⟩ = false ∧ w.frozen? ⟨i, 2, none⟩ = false ∧ w.frozen? ⟨i, 3, none⟩ = false ∧ w.frozen? ⟨i, 4, none⟩ = false :=
  ⟨by simp [World.cell?, h], by simp [World.cell?, h], by simp [World.cell?, h], by simp [World.cell?, h], by simp [World.cell?, h], frozen_of_row w i 0 _ _ h, frozen_of_row w i 1 _ _ h, frozen_of_row w i 2 _ _ h, frozen_of_row w i 3 _ _ h, frozen_of_row w i 4 _ _ h⟩
/-- Three cells of a block set. -/
def set3 (W : World) (g : Nat) (y : Tl) : World := ((W.setCell ⟨g, 0, none⟩ (.int .i64 y.n)).setCell ⟨g, 1, none⟩ (.int .u64 y.a)).setCell ⟨g, 2, none⟩ (.int .u64 y.b)
theorem set3_same {W : World} {g : Nat} {x0 x1 x2 : Value} (h : W.heap[g]? = some (.cells #[x0, x1, x2] 40 (0, 0))) (y : Tl) : (set3 W g y).heap[g]? = some (.cells #[.int .i64 y.n, .int .u64 y.a, .int .u64 y.b] 40 (0, 0)) := by
  have h1 := heap_setCell_same W g 0 _ _ (.int .i64 y.n) h
  have h2 := heap_setCell_same _ g 1 _ _ (.int .u64 y.a) h1
  exact heap_setCell_same _ g 2 _ _ (.int .u64 y.b) h2
theorem set3_other (W : World) (g k : Nat) (y : Tl) (h : k ≠ g) : (set3 W g y).heap[k]? = W.heap[k]? := by
  unfold set3
  rw [heap_setCell_other _ _ _ _ h, heap_setCell_other _ _ _ _ h, heap_setCell_other _ _ _ _ h]
theorem set3_cell {W : World} {g : Nat} {p : Addr} {v : Value} (y : Tl) (h : W.cell? p = some v) (hne : p.block ≠ g) : (set3 W g y).cell? p = some v := by
  unfold set3
  rw [World.cell?_setCell_other _ _ _ _ (fun e => hne (by rw [← e])), World.cell?_setCell_other _ _ _ _ (fun e => hne (by rw [← e])), World.cell?_setCell_other _ _ _ _ (fun e => hne (by rw [← e]))]
  exact h
theorem Keeps.set3 {S : Nat → Prop} {a w : World} (h : Keeps S a w) {g : Nat} (hg : g < a.heap.size → S g) (y : Tl) : Keeps S a (set3 w g y) :=
  ((h.setCell (p := ⟨g, 0, none⟩) hg _).setCell (p := ⟨g, 1, none⟩) hg _).setCell (p := ⟨g, 2, none⟩) hg _
theorem CntE.set3 {c : Option Nat} {n : Nat} {w : World} (h : CntE c n w) {g : Nat} (hg : ¬ OnC c g) (y : Tl) : CntE c n (set3 w g y) :=
  ((h.setCell (p := ⟨g, 0, none⟩) _ hg).setCell (p := ⟨g, 1, none⟩) _ hg).setCell (p := ⟨g, 2, none⟩) _ hg
theorem Stay.set3 {T : TypeId} {a b : World} (h : Stay T a b) {g : Nat} {x0 x1 x2 : Value} (hg : b.heap[g]? = some (.cells #[x0, x1, x2] 40 (0, 0))) (hT : T ≠ 40) (y : Tl) : Stay T a (set3 b g y) := fun i cs e => by
  have e1 := h i cs e
  rw [set3_other]
  · exact e1
  · rintro rfl; rw [hg] at e1; simp at e1; exact hT e1.2.symm
end Go.Proofs.YtoflalflacopdaaDoor
namespace Go.Proofs.YtoflalflacopdaaDoor
open Go.RowKit
set_option linter.unusedVariables false
namespace Tr
variable {β α : Type}
def hangC (l r : Tr β α) : Nat := (if l.isNil then 0 else 1) + (if r.isNil then 0 else 1)
def turnRC (l r : Tr β α) : Nat :=
  match l with
  | nil => 0
  | node ll _ _ _ lr =>
    if lr.ht ≤ ll.ht then hangC lr r + (if ll.isNil then 1 else 2) else
      match lr with
      | nil => 0
      | node a _ _ _ b => hangC ll a + hangC b r + 2
def turnLC (l r : Tr β α) : Nat :=
  match r with
  | nil => 0
  | node rl _ _ _ rr =>
    if rl.ht ≤ rr.ht then hangC l rl + (if rr.isNil then 1 else 2) else
      match rl with
      | nil => 0
      | node a _ _ _ b => hangC l a + hangC b rr + 2
def levelC (l r : Tr β α) : Nat := if l.ht = r.ht + 2 then turnRC l r else if r.ht = l.ht + 2 then turnLC l r else hangC l r
end Tr
end Go.Proofs.YtoflalflacopdaaDoor

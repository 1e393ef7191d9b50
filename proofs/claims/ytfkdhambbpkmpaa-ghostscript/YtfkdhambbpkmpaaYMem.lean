/-
  Memory that a call has made: which blocks a step may turn (Keeps), a writer in its block (IsW), and what an append to it leaves.
-/
import Derived.Test.YtfkdhambbpkmpaaYBytes1
import Derived.Below
namespace Go.Proofs.Ytfkdhambbpkmpaa
open Go.RowKit
/-- Of the blocks that were there only those in S may have turned; streams as they were; no block has gone. -/
structure Keeps (S : Nat → Prop) (w w' : World) : Prop where
  os : w'.os = w.os
  tape : w'.tape = w.tape
  output : w'.output = w.output
  size : w.heap.size ≤ w'.heap.size
  block : ∀ k, k < w.heap.size → ¬ S k → w'.heap[k]? = w.heap[k]?

theorem Keeps.refl (S : Nat → Prop) (w : World) : Keeps S w w := ⟨rfl, rfl, rfl, Nat.le_refl _, fun _ _ _ => rfl⟩

theorem Keeps.trans {S : Nat → Prop} {a b c : World} (h : Keeps S a b) (k : Keeps S b c) : Keeps S a c :=
  ⟨k.os.trans h.os, k.tape.trans h.tape, k.output.trans h.output, Nat.le_trans h.size k.size, fun i hi hs => (k.block i (Nat.lt_of_lt_of_le hi h.size) hs).trans (h.block i hi hs)⟩

theorem Keeps.mono {S S' : Nat → Prop} {w w' : World} (h : Keeps S w w') (hS : ∀ k, k < w.heap.size → S k → S' k) : Keeps S' w w' :=
  ⟨h.os, h.tape, h.output, h.size, fun k hk hs => h.block k hk (fun s => hs (hS k hk s))⟩

theorem Keeps.drew {S : Nat → Prop} {a w : World} (h : Keeps S a w) : Keeps S a w.drew := ⟨h.os, h.tape, h.output, h.size, h.block⟩

theorem Keeps.drewN {S : Nat → Prop} {a w : World} (h : Keeps S a w) (n : Nat) : Keeps S a (w.drewN n) := ⟨h.os, h.tape, h.output, h.size, h.block⟩

theorem Keeps.alloc {S : Nat → Prop} {a w : World} (h : Keeps S a w) (o : Obj) : Keeps S a (w.alloc o) :=
  h.trans ⟨rfl, rfl, rfl, by simp, fun k hk _ => Below.heap_alloc _ _ _ hk⟩

theorem Keeps.setCell {S : Nat → Prop} {a w : World} (h : Keeps S a w) {p : Addr} (hp : p.block < a.heap.size → S p.block) (u : Value) : Keeps S a (w.setCell p u) :=
  ⟨h.os, h.tape, h.output, Nat.le_trans h.size (by simp [World.setCell]), fun k hk hs => by
    have hne : k ≠ p.block := fun e => by subst e; exact hs (hp hk)
    rw [Below.heap_setCell _ _ _ _ hne]
    exact h.block k hk hs⟩

theorem Keeps.grown {S : Nat → Prop} {a w w' : World} {row : Option Nat} (h : Keeps S a w) (hg : w.grownBy w' row) (hr : ∀ k, row = some k → k < a.heap.size → S k) : Keeps S a w' :=
  ⟨hg.os.trans h.os, hg.tape.trans h.tape, hg.output.trans h.output, Nat.le_trans h.size hg.size, fun k hk hs => (hg.block k (Nat.lt_of_lt_of_le hk h.size) (fun e => hs (hr k e.symm hk))).trans (h.block k hk hs)⟩

theorem Keeps.below {S : Nat → Prop} {w w' : World} (h : Keeps S w w') {B : Nat} (hB : B ≤ w.heap.size) (hS : ∀ k, k < B → ¬ S k) : Below B w w' :=
  ⟨h.os, h.tape, h.output, h.size, fun k hk => h.block k (Nat.lt_of_lt_of_le hk hB) (hS k hk)⟩

theorem Keeps.of_below {w w' : World} (h : Below w.heap.size w w') (S : Nat → Prop) : Keeps S w w' :=
  ⟨h.os, h.tape, h.output, h.size, fun k hk _ => h.block k hk⟩

theorem Keeps.cell {S : Nat → Prop} {w w' : World} (h : Keeps S w w') {p : Addr} (hp : p.block < w.heap.size) (hn : ¬ S p.block) : w'.cell? p = w.cell? p := World.cell?_of_block (w := w) (h.block p.block hp hn)

theorem ownsRow_keep {S : Nat → Prop} {w w' : World} {base : Nat} {e : TypeId} {size : Nat} {v : Value} {n : Nat} {xs : List Value} (h : w.ownsRow base e size v n xs) (k : Keeps S w w') (hv : ∀ j, v.ownBlock = some j → ¬ S j) : w'.ownsRow base e size v n xs := by
  refine ⟨h.1, ?_⟩
  rcases h.2 with hn | ⟨g, cap, cur, rfl, hb, hg, r⟩
  · exact .inl hn
  · refine .inr ⟨g, cap, cur, rfl, hb, ?_, r⟩
    rw [k.block g (Array.getElem?_eq_some_iff.1 hg).1 (hv g rfl)]
    exact hg

/-- The row that a value owns is the old one, or was made since. -/
def Fresh (w : World) (g g' : Option Nat) : Prop := g' = g ∨ ∃ k, g' = some k ∧ w.heap.size ≤ k

theorem Fresh.trans {w w1 : World} {g g1 g2 : Option Nat} (h : Fresh w g g1) (k : Fresh w1 g1 g2) (hw : w.heap.size ≤ w1.heap.size) : Fresh w g g2 := by
  rcases k with rfl | ⟨j, rfl, hj⟩
  · exact h
  · exact .inr ⟨j, rfl, Nat.le_trans hw hj⟩

/-- Two steps that each turn block b and the row then owned. -/
theorem Keeps.step {b : Nat} {w wr w2 : World} {g g1 : Option Nat} (h1 : Keeps (fun k => k = b ∨ g = some k) w wr) (fr : Fresh w g g1) (h2 : Keeps (fun k => k = b ∨ g1 = some k) wr w2) : Keeps (fun k => k = b ∨ g = some k) w w2 :=
  ⟨h2.os.trans h1.os, h2.tape.trans h1.tape, h2.output.trans h1.output, Nat.le_trans h1.size h2.size, fun k hk hs =>
    (h2.block k (Nat.lt_of_lt_of_le hk h1.size) (fun e => by
      rcases e with e | e
      · exact hs (.inl e)
      · rcases fr with rfl | ⟨j, rfl, hj⟩
        · exact hs (.inr e)
        · cases e; omega)).trans (h1.block k hk hs)⟩

/-- A writer (a struct of one slice of bytes) of type T in block b, one of the blocks from B on; its row is in block g; it holds the bytes l. -/
def IsW (T B b : Nat) (g : Option Nat) (l : List UInt8) (w : World) : Prop :=
  B ≤ b ∧ g ≠ some b ∧ ∃ v, w.heap[b]? = some (.cells #[v] T (0, 0)) ∧ v.ownBlock = g ∧ w.ownsRow B 5 1 v l.length (Lib.byteCells l)

theorem IsW.lt {T B b : Nat} {g : Option Nat} {l : List UInt8} {w : World} (h : IsW T B b g l w) : b < w.heap.size := by
  obtain ⟨_, _, v, hv, _⟩ := h
  exact (Array.getElem?_eq_some_iff.1 hv).1

theorem IsW.row {T B b : Nat} {g : Option Nat} {l : List UInt8} {w : World} (h : IsW T B b g l w) : ∀ k, g = some k → B ≤ k ∧ k < w.heap.size := by
  obtain ⟨_, _, v, _, rfl, ho⟩ := h
  exact ho.lt

theorem IsW.keep {S : Nat → Prop} {T B b : Nat} {g : Option Nat} {l : List UInt8} {w w' : World} (h : IsW T B b g l w) (k : Keeps S w w') (hb : ¬ S b) (hg : ∀ j, g = some j → ¬ S j) : IsW T B b g l w' := by
  have hlt := h.lt
  obtain ⟨h1, h2, v, hv, rfl, ho⟩ := h
  exact ⟨h1, h2, v, (k.block b hlt hb).trans hv, rfl, ownsRow_keep ho k hg⟩

theorem IsW.of_len {T B b : Nat} {g : Option Nat} {l m : List UInt8} {w : World} (h : IsW T B b g l w) (e : l = m) : IsW T B b g m w := e ▸ h

/-- The block stands while another row grows. -/
theorem block_grown {wr w1 : World} {o : Obj} {T b : Nat} {v : Value} (hh : wr.heap[b]? = some (.cells #[v] T (0, 0))) (hne : v.ownBlock ≠ some b) (hg : (wr.alloc o).grownBy w1 v.ownBlock) : w1.heap[b]? = some (.cells #[v] T (0, 0)) := by
  have hlt := (Array.getElem?_eq_some_iff.1 hh).1
  rw [hg.block b (by simp; omega) (Ne.symm hne), Below.heap_alloc _ _ _ hlt]
  exact hh

theorem cell_one {w : World} {T b : Nat} {v : Value} (hh : w.heap[b]? = some (.cells #[v] T (0, 0))) : w.cell? ⟨b, 0, none⟩ = some v := by
  rw [cell_of_row w b 0 _ _ _ hh]; rfl

theorem frozen_one {w : World} {T b : Nat} {v : Value} (hh : w.heap[b]? = some (.cells #[v] T (0, 0))) : w.frozen? ⟨b, 0, none⟩ = false := frozen_of_row w b 0 _ _ hh

/-- An append to a writer, its slice stored back. -/
theorem app_done {T B b g1 cap : Nat} {wr w1 : World} {o : Obj} {v : Value} {l news : List UInt8} {n : Nat} (hB : B ≤ b) (hh : wr.heap[b]? = some (.cells #[v] T (0, 0))) (hne : v.ownBlock ≠ some b)
    (hn : l.length + news.length = n)
    (hg : (wr.alloc o).grownBy w1 v.ownBlock) (hown1 : w1.ownsRow B 5 1 (.slice (some ⟨g1, 0, none⟩) n cap) n (Lib.byteCells l ++ Lib.byteCells news)) (hat : v.ownBlock = some g1 ∨ g1 = wr.heap.size + 1) :
    IsW T B b (some g1) (l ++ news) (w1.setCell ⟨b, 0, none⟩ (.slice (some ⟨g1, 0, none⟩) n cap)) ∧ Fresh wr v.ownBlock (some g1) ∧
    Keeps (fun k => k = b ∨ v.ownBlock = some k) wr (w1.setCell ⟨b, 0, none⟩ (.slice (some ⟨g1, 0, none⟩) n cap)) := by
  have hlt := (Array.getElem?_eq_some_iff.1 hh).1
  have hb1 := block_grown hh hne hg
  have hgb : g1 ≠ b := by
    rcases hat with h | h
    · intro e; exact hne (by rw [h, e])
    · omega
  refine ⟨⟨hB, fun e => hgb (Option.some.inj e), .slice (some ⟨g1, 0, none⟩) n cap, ?_, rfl, ?_⟩, ?_, ?_⟩
  · rw [heap_setCell_same w1 b 0 _ T _ hb1]; rfl
  · subst hn
    refine ⟨by simp [Lib.byteCells], ?_⟩
    rcases hown1.2 with ⟨h, _⟩ | ⟨g, c, cur, e, hbase, hheap, r⟩
    · cases h
    · cases e
      refine .inr ⟨g1, cap, cur, by simp, hbase, ?_, ?_⟩
      · rw [Below.heap_setCell _ _ _ _ hgb]; exact hheap
      · rw [List.length_append, Lib.byteCells_append]; exact r
  · rcases hat with h | h
    · exact .inl h.symm
    · exact .inr ⟨g1, rfl, by omega⟩
  · refine Keeps.setCell (((Keeps.refl _ wr).alloc o).grown hg (fun k hk _ => .inr hk)) (fun _ => .inl rfl) _

end Go.Proofs.Ytfkdhambbpkmpaa

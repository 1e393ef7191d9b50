/-
  Rows that a call owns while others are written: what stays (Keeps); a row of ranges, a row of texts, written at one place.
-/
import Derived.Test.YtidajlnaehhkkaaRSplit
import Derived.Test.YtidajlnaehhkkaaSStrs
namespace Go.Proofs.Ytidajlnaehhkkaa
open Go.RowKit
set_option linter.unusedVariables false

/-- Of the blocks that were there only those in S may have turned; streams as they were; no block has gone. -/
structure Keeps (S : Nat → Prop) (w w' : World) : Prop where
  os : w'.os = w.os
  tape : w'.tape = w.tape
  output : w'.output = w.output
  size : w.heap.size ≤ w'.heap.size
  block : ∀ k, k < w.heap.size → ¬ S k → w'.heap[k]? = w.heap[k]?

theorem Keeps.refl (S : Nat → Prop) (w : World) : Keeps S w w := ⟨rfl, rfl, rfl, Nat.le_refl _, fun _ _ _ => rfl⟩
theorem Keeps.trans {S : Nat → Prop} {a b c : World} (h : Keeps S a b) (k : Keeps S b c) : Keeps S a c :=
  ⟨k.os.trans h.os, k.tape.trans h.tape, k.output.trans h.output, Nat.le_trans h.size k.size, fun i hi hs => (k.block i (Nat.lt_of_lt_of_le hi h.size) hs).trans (h.block i hi hs)⟩
theorem Keeps.drew {S : Nat → Prop} {a w : World} (h : Keeps S a w) : Keeps S a w.drew := ⟨h.os, h.tape, h.output, h.size, h.block⟩
theorem Keeps.setCell {S : Nat → Prop} {a w : World} (h : Keeps S a w) {p : Addr} (hp : S p.block) (u : Value) : Keeps S a (w.setCell p u) :=
  ⟨h.os, h.tape, h.output, Nat.le_trans h.size (by simp [World.setCell]), fun k hk hs => by
    have hne : k ≠ p.block := fun e => by subst e; exact hs hp
    rw [Below.heap_setCell _ _ _ _ hne]
    exact h.block k hk hs⟩
theorem Keeps.grown {S : Nat → Prop} {a w w' : World} {o : Obj} {row : Option Nat} (h : Keeps S a w) (hg : (w.alloc o).grownBy w' row) (hr : ∀ k, row = some k → S k) : Keeps S a w' := by
  have h1 : Keeps S a (w.alloc o) := h.trans ⟨rfl, rfl, rfl, by simp, fun k hk _ => Below.heap_alloc _ _ _ hk⟩
  exact ⟨hg.os.trans h1.os, hg.tape.trans h1.tape, hg.output.trans h1.output, Nat.le_trans h1.size hg.size, fun k hk hs => (hg.block k (Nat.lt_of_lt_of_le hk h1.size) (fun e => hs (hr k e.symm))).trans (h1.block k hk hs)⟩
theorem Keeps.low {S : Nat → Prop} {w0 w w' : World} {B : Nat} (h : Keeps S w w') (hb : Below B w0 w) (hB : B ≤ w.heap.size) (hS : ∀ k, k < B → ¬ S k) : Below B w0 w' :=
  hb.trans ⟨h.os, h.tape, h.output, h.size, fun k hk => h.block k (Nat.lt_of_lt_of_le hk hB) (hS k hk)⟩
theorem Keeps.row {S : Nat → Prop} {w w' : World} {base : Nat} {e : TypeId} {size : Nat} {v : Value} {n : Nat} {xs : List Value} (k : Keeps S w w') (h : w.ownsRow base e size v n xs) (hv : ∀ j, v.ownBlock = some j → ¬ S j) : w'.ownsRow base e size v n xs := by
  refine ⟨h.1, ?_⟩
  rcases h.2 with hn | ⟨g, cap, cur, rfl, hb, hg, r⟩
  · exact .inl hn
  · refine .inr ⟨g, cap, cur, rfl, hb, ?_, r⟩
    rw [k.block g (Array.getElem?_eq_some_iff.1 hg).1 (hv g rfl)]
    exact hg

theorem own_up {w w' : World} {base : Nat} {e : TypeId} {size : Nat} {v : Value} {n : Nat} {xs : List Value} (h : w.ownsRow base e size v n xs) (hb : Below w.heap.size w w') : w'.ownsRow base e size v n xs := by
  refine ⟨h.1, ?_⟩
  rcases h.2 with hn | ⟨g, cap, cur, rfl, h2, h3, r⟩
  · exact .inl hn
  · exact .inr ⟨g, cap, cur, rfl, h2, (hb.block g (Array.getElem?_eq_some_iff.1 h3).1).trans h3, r⟩
theorem own_base {w : World} {base base' : Nat} {e : TypeId} {size : Nat} {v : Value} {n : Nat} {xs : List Value} (h : w.ownsRow base e size v n xs) (hb : base' ≤ base) : w.ownsRow base' e size v n xs := by
  refine ⟨h.1, ?_⟩
  rcases h.2 with hn | ⟨g, cap, cur, rfl, h2, h3, r⟩
  · exact .inl hn
  · exact .inr ⟨g, cap, cur, rfl, Nat.le_trans hb h2, h3, r⟩
theorem own_to {w : World} {base : Nat} {e : TypeId} {size : Nat} {v : Value} {n : Nat} {xs ys : List Value} (h : w.ownsRow base e size v n xs) (hb : xs = ys) : w.ownsRow base e size v n ys := hb ▸ h

theorem rgCells_set (f : Nat → Rg) (x : Rg) : ∀ (n i : Nat), i < n → (((rgCells f n).set (i * 3) (.string x.lo)).set (i * 3 + 1) (.string x.hi)).set (i * 3 + 2) (.bool x.op) = rgCells (fun j => if j = i then x else f j) n
  | n + 1, i, h => by
    have hl := rgCells_length f n
    simp only [rgCells]
    by_cases e : i = n
    · subst e
      have e0 : rgCells (fun j => if j = i then x else f j) i = rgCells f i := rgCells_congr (fun j hj => by rw [if_neg (by omega)])
      rw [e0, if_pos rfl]
      rw [List.set_append_right _ _ (by omega), List.set_append_right _ _ (by omega), List.set_append_right _ _ (by omega), hl, Nat.sub_self, show i * 3 + 1 - i * 3 = 1 from by omega, show i * 3 + 2 - i * 3 = 2 from by omega]
      rfl
    · rw [if_neg (by omega), ← rgCells_set f x n i (by omega)]
      rw [List.set_append_left _ _ (by omega), List.set_append_left _ _ (by simp; omega), List.set_append_left _ _ (by simp; omega)]

/-- The first k ranges turned to x. -/
def turnedR (x : Rg) (T : Nat → Rg) (k j : Nat) : Rg := if j < k then x else T j

theorem turned_step (x : Rg) (T : Nat → Rg) {n k : Nat} (hk : k < n) : (((rgCells (turnedR x T k) n).set (k * 3) (.string x.lo)).set (k * 3 + 1) (.string x.hi)).set (k * 3 + 2) (.bool x.op) = rgCells (turnedR x T (k + 1)) n := by
  rw [rgCells_set _ _ _ _ hk]
  refine rgCells_congr (fun j hj => ?_)
  unfold turnedR
  by_cases e : j = k
  · rw [if_pos e, if_pos (by omega)]
  · rw [if_neg e]
    by_cases e2 : j < k
    · rw [if_pos e2, if_pos (by omega)]
    · rw [if_neg e2, if_neg (by omega)]
theorem turned_zero (x : Rg) (T : Nat → Rg) (n : Nat) : rgCells T n = rgCells (turnedR x T 0) n := rgCells_congr (fun j _ => by unfold turnedR; rw [if_neg (by omega)])
theorem turned_all (x : Rg) (T : Nat → Rg) (n : Nat) : rgCells (turnedR x T n) n = rgCells (fun _ => x) n := rgCells_congr (fun j hj => by unfold turnedR; rw [if_pos hj])

/-- A range stored into an owned row. -/
theorem stored_rg {w : World} {B g n cap k : Nat} {T : Nat → Rg} {x : Rg} (h : w.ownsRow B 23 3 (.slice (some ⟨g, 0, none⟩) n cap) n (rgCells (turnedR x T k) n)) (hk : k < n) :
    (((w.setCell ⟨g, k * 3, none⟩ (.string x.lo)).setCell ⟨g, k * 3 + 1, none⟩ (.string x.hi)).setCell ⟨g, k * 3 + 2, none⟩ (.bool x.op)).ownsRow B 23 3 (.slice (some ⟨g, 0, none⟩) n cap) n (rgCells (turnedR x T (k + 1)) n) :=
  own_to (((h.stored (k * 3) (.string x.lo)).1.stored (k * 3 + 1) (.string x.hi)).1.stored (k * 3 + 2) (.bool x.op)).1 (turned_step x T hk)

/-- The first k texts turned to x. -/
def turnedS (x : ByteArray) (bs : List ByteArray) (k : Nat) : List ByteArray := List.replicate k x ++ bs.drop k

theorem stored_str {w : World} {B g n cap k : Nat} {bs : List ByteArray} {x : ByteArray} (h : w.ownsRow B 9 1 (.slice (some ⟨g, 0, none⟩) n cap) n (strCells (turnedS x bs k))) (hk : k < bs.length) :
    (w.setCell ⟨g, k, none⟩ (.string x)).ownsRow B 9 1 (.slice (some ⟨g, 0, none⟩) n cap) n (strCells (turnedS x bs (k + 1))) := by
  refine own_to (h.stored k (.string x)).1 ?_
  rw [strCells, strCells, ← List.map_set]
  refine congrArg (List.map Value.string) ?_
  unfold turnedS
  rw [List.set_append_right _ _ (by simp), List.length_replicate, Nat.sub_self, List.drop_eq_getElem_cons hk, List.set_cons_zero, List.replicate_succ']
  simp

theorem turnedS_get {x : ByteArray} {bs : List ByteArray} {k j : Nat} (hj : k ≤ j) (hk : k ≤ bs.length) : (turnedS x bs k)[j]? = bs[j]? := by
  unfold turnedS
  rw [List.getElem?_append_right (by simp; omega), List.length_replicate, List.getElem?_drop]
  congr 1; omega

end Go.Proofs.Ytidajlnaehhkkaa

/-
  Some trees and the document's beside them, in memory that was made since w.
-/
import Derived.Test.YtnlmlhoddchgbaaTrPair
import Derived.Test.YtnlmlhoddchgbaaTrOps
namespace Go.Proofs.Ytnlmlhoddchgbaa
open Go.RowKit
set_option linter.unusedVariables false

theorem ty_ne {W : World} {i j : Nat} {cs cs' : Array Value} {t t' : TypeId} {f f' : Nat × Nat} (h : W.heap[i]? = some (.cells cs t f)) (h' : W.heap[j]? = some (.cells cs' t' f')) (hn : t ≠ t') : i ≠ j := by
  intro e
  subst e
  rw [h] at h'
  injection h' with h'
  injection h' with h1 h2
  exact hn h2

/-- A tree, and the document's. -/
structure Pairs where
  tb : Nat
  A : Tr Int Mp
  rb : Nat
  l : List RowR

def ptrA (P : Nat → Pairs) (n : Nat) : List Value := (List.range n).map fun j => .pointer (some ⟨(P j).tb, 0, none⟩)
def ptrB (P : Nat → Pairs) (n : Nat) : List Value := (List.range n).map fun j => .pointer (some ⟨(P j).rb, 0, none⟩)

/-- The world of a script. -/
structure WS (w W : World) (wb ga ca gb cb : Nat) (P : Nat → Pairs) (n m : Nat) : Prop where
  below : Below w.heap.size w W
  blk : W.heap[wb]? = some (.cells #[.slice (some ⟨ga, 0, none⟩) n ca, .slice (some ⟨gb, 0, none⟩) n cb] 35 (0, 0))
  rowA : W.ownsRow w.heap.size 37 1 (.slice (some ⟨ga, 0, none⟩) n ca) n (ptrA P n)
  rowB : W.ownsRow w.heap.size 38 1 (.slice (some ⟨gb, 0, none⟩) n cb) n (ptrB P n)
  lo : w.heap.size ≤ wb
  prs : ∀ j, j < n → Pr W (P j).tb (P j).A (P j).rb (P j).l m ∧ w.heap.size ≤ (P j).tb ∧ w.heap.size ≤ (P j).rb
  ne : ∀ i j, i < n → j < n → i ≠ j → (P i).tb ≠ (P j).tb ∧ (P i).rb ≠ (P j).rb
  n1 : 1 ≤ n
  n4 : n ≤ 4

theorem WS.on {w W W' : World} {wb ga ca gb cb n m : Nat} {P : Nat → Pairs} (h : WS w W wb ga ca gb cb P n m) (b : Below W.heap.size W W') : WS w W' wb ga ca gb cb P n m :=
  ⟨bthen h.below b, blk_on h.blk b, own_on h.rowA b, own_on h.rowB b, h.lo, fun j hj => ⟨(h.prs j hj).1.on b, (h.prs j hj).2⟩, h.ne, h.n1, h.n4⟩
theorem WS.drew {w W : World} {wb ga ca gb cb n m : Nat} {P : Nat → Pairs} (h : WS w W wb ga ca gb cb P n m) : WS w W.drew wb ga ca gb cb P n m := h.on ((Below.refl _ _).drew)
theorem WS.up {w W : World} {wb ga ca gb cb n m m' : Nat} {P : Nat → Pairs} (h : WS w W wb ga ca gb cb P n m) (hm : m ≤ m') : WS w W wb ga ca gb cb P n m' :=
  ⟨h.below, h.blk, h.rowA, h.rowB, h.lo, fun j hj => ⟨(h.prs j hj).1.mono hm, (h.prs j hj).2⟩, h.ne, h.n1, h.n4⟩

theorem ptr_cell {W : World} {B g n cap : Nat} {e : TypeId} {f : Nat → Value} (h : W.ownsRow B e 1 (.slice (some ⟨g, 0, none⟩) n cap) n ((List.range n).map f)) {k : Nat} (hk : k < n) : W.cell? ⟨g, k, none⟩ = some (f k) := by
  have c := h.cells (g := g) rfl k (f k) (by rw [List.getElem?_map, List.getElem?_range hk]; rfl)
  rw [Addr.add_lit, Nat.zero_add] at c
  exact c

theorem WS.cells {w W : World} {wb ga ca gb cb n m : Nat} {P : Nat → Pairs} (h : WS w W wb ga ca gb cb P n m) {k : Nat} (hk : k < n) :
    W.cell? ⟨wb, 0, none⟩ = some (.slice (some ⟨ga, 0, none⟩) n ca) ∧ W.cell? ⟨wb, 1, none⟩ = some (.slice (some ⟨gb, 0, none⟩) n cb) ∧ W.cell? ⟨ga, k, none⟩ = some (.pointer (some ⟨(P k).tb, 0, none⟩)) ∧ W.cell? ⟨gb, k, none⟩ = some (.pointer (some ⟨(P k).rb, 0, none⟩)) :=
  ⟨by simp [World.cell?, h.blk], by simp [World.cell?, h.blk], ptr_cell h.rowA hk, ptr_cell h.rowB hk⟩

theorem row_blk {W : World} {B g n cap : Nat} {e : TypeId} {xs : List Value} {s : Nat} (h : W.ownsRow B e s (.slice (some ⟨g, 0, none⟩) n cap) n xs) : n ≤ cap ∧ B ≤ g ∧ ∃ cur, W.heap[g]? = some (.cells cur e (0, 0)) := by
  rcases h.2 with ⟨h1, -⟩ | ⟨g', cap', cur, h1, h2, h3, h4, -⟩
  · cases h1
  · cases h1; exact ⟨h4, h2, cur, h3⟩

theorem TreeM.blk {W : World} {tb : Nat} {jv : Value} {T : Tr Int Mp} (h : TreeM W tb jv T) : ∃ cs, W.heap[tb]? = some (.cells cs 87 (0, 0)) := by
  obtain ⟨p, h1, -⟩ := h
  exact ⟨_, h1⟩
theorem RT.blk {W : World} {rb : Nat} {l : List RowR} (h : RT W rb l) : ∃ cs, W.heap[rb]? = some (.cells cs 83 (0, 0)) := by
  obtain ⟨v, h1, -⟩ := h
  exact ⟨_, h1⟩

/-- A block of another type than those of trees is none of them. -/
theorem not_pair {W : World} {tb rb m : Nat} {A : Tr Int Mp} {l : List RowR} (h : Pr W tb A rb l m) {i : Nat} {cs : Array Value} {t : TypeId} {f : Nat × Nat} (hi : W.heap[i]? = some (.cells cs t f)) (h1 : t ≠ 87) (h2 : t ≠ 83) : ¬ (i = tb ∨ i = rb) := by
  obtain ⟨ct, ht⟩ := h.tree.blk
  obtain ⟨cr, hr⟩ := h.ref.blk
  rintro (e | e)
  · exact ty_ne hi ht h1 e
  · exact ty_ne hi hr h2 e

theorem tb_rb {W : World} {tb rb : Nat} {A : Tr Int Mp} {l : List RowR} {jv : Value} (h : TreeM W tb jv A) (h' : RT W rb l) : tb ≠ rb := by
  obtain ⟨ct, ht⟩ := h.blk
  obtain ⟨cr, hr⟩ := h'.blk
  exact ty_ne ht hr (by decide)

def upd (P : Nat → Pairs) (k : Nat) (p : Pairs) : Nat → Pairs := fun j => if j = k then p else P j

theorem upd_tb {P : Nat → Pairs} {k : Nat} {A : Tr Int Mp} {l : List RowR} (j : Nat) : (upd P k ⟨(P k).tb, A, (P k).rb, l⟩ j).tb = (P j).tb ∧ (upd P k ⟨(P k).tb, A, (P k).rb, l⟩ j).rb = (P j).rb := by
  unfold upd
  split
  · rename_i e; subst e; exact ⟨rfl, rfl⟩
  · exact ⟨rfl, rfl⟩

/-- One pair was put into. -/
theorem WS.put {w W W' : World} {wb ga ca gb cb n m k : Nat} {P : Nat → Pairs} {A : Tr Int Mp} {l : List RowR} (h : WS w W wb ga ca gb cb P n m) (hk : k < n) (kk : Keeps (fun y => y = (P k).tb ∨ y = (P k).rb) W W')
    (hp : Pr W' (P k).tb A (P k).rb l (m + 1)) : WS w W' wb ga ca gb cb (upd P k ⟨(P k).tb, A, (P k).rb, l⟩) n (m + 1) := by
  have pk := h.prs k hk
  obtain ⟨-, -, cA, hA⟩ := row_blk h.rowA
  obtain ⟨-, -, cB, hB⟩ := row_blk h.rowB
  have eA : ptrA (upd P k ⟨(P k).tb, A, (P k).rb, l⟩) n = ptrA P n := by unfold ptrA; exact List.map_congr_left (fun j _ => by rw [(upd_tb j).1])
  have eB : ptrB (upd P k ⟨(P k).tb, A, (P k).rb, l⟩) n = ptrB P n := by unfold ptrB; exact List.map_congr_left (fun j _ => by rw [(upd_tb j).2])
  refine ⟨h.below.trans (kk.below h.below.size (fun i hi e => ?_)), blk_keep h.blk kk (not_pair pk.1 h.blk (by decide) (by decide)), ?_, ?_, h.lo, ?_, ?_, h.n1, h.n4⟩
  · rcases e with e | e
    · have := pk.2.1; omega
    · have := pk.2.2; omega
  · rw [eA]
    refine ownsRow_keep h.rowA kk (fun j hj => ?_)
    injection hj with hj
    subst hj
    exact not_pair pk.1 hA (by decide) (by decide)
  · rw [eB]
    refine ownsRow_keep h.rowB kk (fun j hj => ?_)
    injection hj with hj
    subst hj
    exact not_pair pk.1 hB (by decide) (by decide)
  · intro j hj
    obtain ⟨e1, e2⟩ := upd_tb (P := P) (k := k) (A := A) (l := l) j
    by_cases e : j = k
    · subst e
      have : upd P j ⟨(P j).tb, A, (P j).rb, l⟩ j = ⟨(P j).tb, A, (P j).rb, l⟩ := by unfold upd; rw [if_pos rfl]
      rw [this]
      exact ⟨hp, pk.2⟩
    · have : upd P k ⟨(P k).tb, A, (P k).rb, l⟩ j = P j := by unfold upd; rw [if_neg e]
      rw [this]
      have pj := h.prs j hj
      have ne := h.ne j k hj hk e
      refine ⟨Pr.mono (pj.1.keep kk ?_ ?_ ?_) (Nat.le_succ m), pj.2⟩
      · rintro (e' | e')
        · exact ne.1 e'
        · exact tb_rb pj.1.tree pk.1.ref e'
      · rintro (e' | e')
        · exact tb_rb pk.1.tree pj.1.ref e'.symm
        · exact ne.2 e'
      · intro i cs t hi ht
        rcases ht with rfl | rfl
        · exact not_pair pk.1 hi (by decide) (by decide)
        · exact not_pair pk.1 hi (by decide) (by decide)
  · intro i j hi hj e
    rw [(upd_tb i).1, (upd_tb j).1, (upd_tb i).2, (upd_tb j).2]
    exact h.ne i j hi hj e

end Go.Proofs.Ytnlmlhoddchgbaa

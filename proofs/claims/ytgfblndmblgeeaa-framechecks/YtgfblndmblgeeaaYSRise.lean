/-
  Rising, the code's: it returns what the plain function gives, and writes nothing that was there.
-/
import Derived.Test.YtgfblndmblgeeaaYSIdx
namespace Go.Proofs.Ytgfblndmblgeeaa
open Go.RowKit Go.Shelf
attribute [local go_sem] Oper.semAt_some
/-- May the second of two neighbours stand behind the first? -/
def okP (x : Rg × Rg) : Bool := !(x.1.op || Op.bytesLess x.2.lo.toList x.1.hi.toList)

/-- Do the first n ranges rise? -/
def rises (T : Nat → Rg) (n : Nat) : Bool := !anyE T n && (upto (fun j => (T j, T (j + 1))) (n - 1)).all okP

theorem cells_kept {W W' : World} {row : Option Nat} {k : Nat} {cs : Array Value} {t : TypeId} {fr : Nat × Nat} (h : W.heap[k]? = some (.cells cs t fr)) (hg : W.grownBy W' row) (hrow : ∀ r, row = some r → ∃ o : Obj, W.heap[r]? = some o ∧ o.isCells = false) :
    W'.heap[k]? = some (.cells cs t fr) := (grownBy_keeps_cells hg hrow h rfl).trans h

theorem RgsIn.up {n₀ n₁ : Nat} {A B : World} (h : Below n₀ A B) (hn : n₀ ≤ n₁) {a : Option Addr} {len cap : Nat} {T : Nat → Rg} (hr : RgsIn n₀ A a len cap T) : RgsIn n₁ B a len cap T := by
  obtain ⟨h1, h2, h3⟩ := hr.below h
  refine ⟨h1, h2, ?_⟩
  rcases h3 with h3 | ⟨blk, off, e, hb, hc⟩
  · exact .inl h3
  · exact .inr ⟨blk, off, e, Nat.lt_of_lt_of_le hb hn, hc⟩

theorem box1_out {W : World} {k : Nat} {a : Value} {t : TypeId} (h : W.heap[k]? = some (.cells #[a] t (0, 0))) : W.cell? ⟨k, 0, none⟩ = some a ∧ W.frozen? ⟨k, 0, none⟩ = false := by
  simp [World.cell?, World.frozen?, h]

theorem rises_no {T : Nat → Rg} {len k : Nat} (hk : k ≤ len - 1) (h : (upto (fun j => (T j, T (j + 1))) k).all okP = false) : rises T len = false := by
  have : (upto (fun j => (T j, T (j + 1))) (len - 1)).all okP = false := by
    rw [Bool.eq_false_iff] at h ⊢
    intro h2
    apply h
    rw [List.all_eq_true] at h2 ⊢
    intro x hx
    apply h2
    simp only [upto, List.mem_map, List.mem_range] at hx ⊢
    obtain ⟨j, hj, e⟩ := hx
    exact ⟨j, by omega, e⟩
  simp [rises, this]




end Go.Proofs.Ytgfblndmblgeeaa

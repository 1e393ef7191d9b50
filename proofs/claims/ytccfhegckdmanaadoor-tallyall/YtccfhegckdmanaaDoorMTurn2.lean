/-
  Parts of a row of entries, and what All says of them; integers that came in.
-/
import Derived.Test.YtccfhegckdmanaaDoorMTurn
import Derived.OpenShut
import Derived.ProofKit
namespace Go.Proofs.YtccfhegckdmanaaDoor
open Go.RowKit Go.ChangeShapes Go.WideShapes
set_option linter.unusedVariables false

/-- A list of numbers in memory. -/
def IntsIn (w : World) (a : Option Addr) (len cap : Nat) (T : Nat → Int) : Prop :=
  len ≤ cap ∧ cap ≤ maxLen ∧ (len = 0 ∨ ∃ b off, a = some ⟨b, off, none⟩ ∧ b < w.heap.size ∧ ∀ i, i < len → w.cell? ⟨b, off + i, none⟩ = some (.int .i64 (T i)))

theorem IntsIn.keep {w w' : World} {a : Option Addr} {len cap : Nat} {T : Nat → Int} (h : IntsIn w a len cap T) (b : Below w.heap.size w w') : IntsIn w' a len cap T := by
  obtain ⟨h1, h2, h3⟩ := h
  refine ⟨h1, h2, ?_⟩
  rcases h3 with h3 | ⟨bb, off, rfl, hb, hc⟩
  · exact .inl h3
  · exact .inr ⟨bb, off, rfl, by have := b.size; omega, fun i hi => cell_in (hc i hi) b⟩

def allL (l : List En) : Value := .agg #[.int .u64 (allI f0 l), .int .u64 (allI f1 l)]

theorem firstE_part (l : List En) (o n : Nat) (h : o + n ≤ l.length) : firstE (fun i => nthE l (o + i)) n = (l.drop o).take n := by
  apply List.ext_getElem?
  intro i
  by_cases hi : i < n
  · rw [firstE, List.getElem?_map, List.getElem?_range hi, List.getElem?_take_of_lt hi, List.getElem?_drop, nthE_get (by omega)]
    rfl
  · rw [List.getElem?_eq_none (by simp [firstE]; omega), List.getElem?_eq_none (by simp; omega)]

theorem allV_part (l : List En) (o n : Nat) (h : o + n ≤ l.length) : allV (fun i => nthE l (o + i)) n = allL ((l.drop o).take n) := by
  unfold allV allL; rw [firstE_part l o n h]

set_option maxRecDepth 100000 in
theorem slice_parts {X0 : World} {B : Nat} {aM : Option Addr} {N cM n : Nat} {M : List En} (own : X0.ownsRow B 32 5 (.slice aM N cM) N (entCells M)) (hn : n ≤ N) (hk : KeysOk M) :
    ∃ aT cT, (∀ W, (Instr.slice 22 (.slice aM N cM) (some (.int .i64 (n : Int))) none none).run Tryd.prog W = .ok (.slice aT (N - n) cT) W) ∧ (∀ W, (Instr.slice 22 (.slice aM N cM) none (some (.int .i64 (n : Int))) none).run Tryd.prog W = .ok (.slice aM n cM) W) ∧
      ∀ X, Below X0.heap.size X0 X → EntsIn X aT (N - n) cT (fun i => nthE M (n + i)) ∧ EntsIn X aM n cM (fun i => nthE M (0 + i)) ∧ EntsIn X aM N cM (fun i => nthE M (0 + i)) := by
  obtain ⟨a, c, hv, h1, h2, hform⟩ := own_slice own
  injection hv with e1 e2 e3
  subst e1 e3
  have hmx : cM ≤ 9223372036854775807 := by unfold maxLen at h2; omega
  have g0 : (0 : Int) ≤ (n : Int) := by omega
  have g1 : (n : Int) ≤ (N : Int) := by omega
  have g2 : (n : Int) ≤ (cM : Int) := by omega
  have g3 : (N : Int) ≤ (cM : Int) := by omega
  rcases hform with ⟨rfl, rfl, rfl⟩ | ⟨g, rfl, hb⟩
  · have hn0 : n = 0 := by omega
    subst hn0
    refine ⟨none, 0, fun W => by go_simp, fun W => by go_simp, fun X b => ⟨⟨Nat.le_refl _, Nat.zero_le _, .inl rfl⟩, ⟨Nat.le_refl _, Nat.zero_le _, .inl rfl⟩, ⟨Nat.le_refl _, Nat.zero_le _, .inl rfl⟩⟩⟩
  · have parts : ∀ X, Below X0.heap.size X0 X → EntsIn X (some ⟨g, 0, none⟩) n cM (fun i => nthE M (0 + i)) ∧ EntsIn X (some ⟨g, 0, none⟩) N cM (fun i => nthE M (0 + i)) := fun X b =>
      ⟨ents_of_row (own_on own b) hk (o := 0) (by omega) (by omega) h2 (.inr rfl), ents_of_row (own_on own b) hk (o := 0) (by omega) h1 h2 (.inr rfl)⟩
    by_cases hcn : cM = n
    · refine ⟨some ⟨g, 0, none⟩, cM - n, fun W => ?_, fun W => ?_, fun X b => ⟨?_, parts X b⟩⟩
      · go_simp
      · go_simp
      · exact ents_of_row (own_on own b) hk (o := n) (by omega) (by omega) (by omega) (.inl (by omega))
    · refine ⟨some ⟨g, n * 5, none⟩, cM - n, fun W => ?_, fun W => ?_, fun X b => ⟨?_, parts X b⟩⟩
      · go_simp
      · go_simp
      · exact ents_of_row (own_on own b) hk (o := n) (by omega) (by omega) (by omega) (.inr rfl)



/-- The lanes of an entry are of 64 bits. -/
theorem bits_range (x y : Int) : 0 ≤ bits .xor .u64 x y ∧ bits .xor .u64 x y < 18446744073709551616 := by
  have := bounds_u64 (wf_bits .xor .u64 x y)
  omega

theorem f0_range (e : En) : 0 ≤ f0 e ∧ f0 e < 18446744073709551616 := by
  unfold f0; rw [of0_end e.k e.c e.n rfl]; exact bits_range _ _
theorem f1_range (e : En) : 0 ≤ f1 e ∧ f1 e < 18446744073709551616 := by
  unfold f1; rw [of1_end e.k e.c e.n rfl]; exact bits_range _ _

theorem allI_range (f : En → Int) (l : List En) : 0 ≤ allI f l ∧ allI f l < 18446744073709551616 := by
  unfold allI; rw [IntKind.wrap_u64]; omega

theorem allI_one {f : En → Int} {e : En} (h : 0 ≤ f e ∧ f e < 18446744073709551616) : allI f [e] = f e := by
  unfold allI; rw [IntKind.wrap_u64]; simp; omega

theorem allI_app (f : En → Int) (l m : List En) : IntKind.u64.wrap (allI f l + allI f m) = allI f (l ++ m) := by
  unfold allI
  rw [wrap_add, Int.add_comm, wrap_add, List.map_append, List.sum_append, Int.add_comm]

theorem allI_eq {f : En → Int} {l m : List En} (h : (l.map f).sum = (m.map f).sum) : allI f l = allI f m := by unfold allI; rw [h]

end Go.Proofs.YtccfhegckdmanaaDoor

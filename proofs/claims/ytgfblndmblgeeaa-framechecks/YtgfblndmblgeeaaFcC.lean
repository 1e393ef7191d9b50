/-
  countEntries, CheckParts, isOpening and Check, the code's.
-/
import Derived.Test.YtgfblndmblgeeaaFcB
namespace Go.Proofs.Ytgfblndmblgeeaa
open Go.RowKit
set_option linter.unusedVariables false
theorem set_in {w : World} {b : Nat} (k : Nat) (u : Value) {cs : Array Value} {t : TypeId} (h : w.heap[b]? = some (.cells cs t (0, 0))) : (w.setCell ⟨b, k, none⟩ u).heap[b]? = some (.cells (cs.setIfInBounds k u) t (0, 0)) := by
  simp only [World.setCell]
  rw [Array.getElem?_modify]
  simp [h]
theorem set_tri {w : World} {b : Nat} {x y z : Value} {t : TypeId} (h : w.heap[b]? = some (.cells #[x, y, z] t (0, 0))) (u v r : Value) : (((w.setCell ⟨b, 0, none⟩ u).setCell ⟨b, 1, none⟩ v).setCell ⟨b, 2, none⟩ r).heap[b]? = some (.cells #[u, v, r] t (0, 0)) := by
  have h1 := set_in 2 r (set_in 1 v (set_in 0 u h))
  simpa using h1
set_option maxHeartbeats 1600000 in
theorem count_any (a : Option Addr) (len cap : Nat) (P : Nat → Pm) (w : World) (h : PartsIn w a len cap P) (hT : totE P len ≤ 4611686018427387904) :
    Calls Try.prog 40 #[.slice a len cap] w fun e w' => e = .returned (.int .i64 (totE P len : Int)) ∧ Below w.heap.size w w' := by
  have HE := aside h
  have HT := aside hT
  obtain ⟨hlc, hcm, -⟩ := h
  have hmx : (len : Int) ≤ 9223372036854775807 := by unfold maxLen at hcm; omega
  clear hlc hcm hT
  go_enter Try.func40, Try.ntmps40
  go_wp2
  go_loopw [3, 8] (fun c i wr => ∃ j : Nat, c = .int .i64 (totE P j : Int) ∧ i = .int .i64 (j : Int) ∧ j ≤ len ∧ Below w.heap.size w wr) (fun c i _ => len - (intOf i).toNat)
  case atStart => exact ⟨0, rfl, rfl, Nat.zero_le _, Below.refl _ _⟩
  case round =>
    obtain ⟨j, rfl, rfl, hj, hB⟩ := hrel
    have HB := aside hB
    clear hB
    by_cases hlt : (j : Int) < (len : Int)
    · have hE := HE.out.keep HB.out
      rcases hE.2.2 with h0 | ⟨b, off, rfl, hb, hc⟩
      · omega
      obtain ⟨hat, hin⟩ := hc j (by omega)
      obtain ⟨p, hp⟩ : ∃ p, P j = p := ⟨_, rfl⟩
      have HP := aside hp
      rw [hp] at hat hin
      clear hp hc
      obtain ⟨kind, lo, hi, op, cnt, s0, s1, ea, el, ec, T⟩ := p
      obtain ⟨c0, c1, c2, c3, c4, c5, c6, c7⟩ := hat
      dsimp only at c0 c1 c2 c3 c4 c5 c6 c7
      have hj0 : (0 : Int) ≤ (j : Int) := by omega
      have hst : totE P (j + 1) = totE P j + el := by simp only [totE, HP.out]
      have HST := aside hst
      have hle : (totE P j : Int) + (el : Int) ≤ 4611686018427387904 := by have h1 := el_totE P (i := j) (n := len) (by omega); rw [HP.out] at h1; dsimp only at h1; have h2 := HT.out; omega
      have hw : IntKind.i64.wrap ((totE P j : Int) + (el : Int)) = (totE P (j + 1) : Int) := by simp only [IntKind.wrap_i64]; omega
      clear hst hle hin
      go_wp2
      go_roundw
      case rel => exact ⟨j + 1, by first | rfl | (rw [hw]), by go_num, by omega, HB.out.trans ((bnew wr _).mono HB.out.size)⟩
      case measure => simp [intOf]; omega
    · have hjl : j = len := by omega
      subst hjl
      go_wp2
      go_ret
      exact ⟨rfl, HB.out⟩
end Go.Proofs.Ytgfblndmblgeeaa

/-
  Numbers that came in.
-/
import Derived.Test.YtoajgacofmodoaaRows
import Derived.Test.YtoajgacofmodoaaYMBase
import Derived.ProofKit
import Derived.OpenShut
import Derived.ShutString
import Derived.SizedLaws
import Derived.HandedShaped
import Derived.Lib.SmallJoins
import Derived.Deep.Slices
import Derived.Deep.Strs
import Derived.Deep.CondSized
import Derived.ChangeOld
import Derived.LaidLaws
import Derived.FnData
namespace Go.Proofs.Ytoajgacofmodoaa
open Go.ChangeShapes Go.WideShapes Go.ChangeAt Go.RowKit
set_option linter.unusedVariables false
theorem own : ownKnob Try.prog.godebug = none := by kernel_rfl
theorem laidOut : laidOutB Try.prog = true := by kernel_rfl
theorem cellsInt : Try.prog.cellsOf 3 = 1 := by kernel_rfl
set_option linter.unusedVariables false

/-- A list of whole numbers that came in. -/
def IntsIn (w : World) (a : Option Addr) (len cap : Nat) (z : Nat → Int) : Prop :=
  len ≤ cap ∧ cap ≤ maxLen ∧ (len = 0 ∨ ∃ b off, a = some ⟨b, off, none⟩ ∧ b < w.heap.size ∧ ∀ i, i < len → w.cell? ⟨b, off + i, none⟩ = some (.int .i64 (z i)))

theorem IntsIn.keep {w w' : World} {a : Option Addr} {len cap : Nat} {T : Nat → Int} (h : IntsIn w a len cap T) (k : Below w.heap.size w w') : IntsIn w' a len cap T := by
  obtain ⟨h1, h2, h4⟩ := h
  refine ⟨h1, h2, ?_⟩
  rcases h4 with h4 | ⟨bb, off, rfl, hb, hc⟩
  · exact .inl h4
  · exact .inr ⟨bb, off, rfl, by have := k.size; omega, fun i hi => cell_in (hc i hi) k⟩

variable {H : Type} {enc : TypeId × Value → H} {W : World}

set_option maxHeartbeats 1000000 in
theorem ints_open {fuel : Nat} {a : Option Addr} {len cap : Nat} {d : DataW H} {ps : List MemPlace}
    (hf : DataW.trod enc Try.prog W 0 (fun _ => true) true fuel 23 [.slice a len cap] = some (d, ps)) :
    ∃ T, IntsIn W a len cap T := by
  rcases Deep.open_slice Try.underlying23 hf with ⟨hcs, _⟩ | ⟨x, l, c, m, n, D, Pl, hcs, hb, hl, hm, hmm, hx, hel⟩
  · simp only [List.cons.injEq, Value.slice.injEq, and_true] at hcs
    obtain ⟨rfl, rfl, rfl⟩ := hcs
    exact ⟨fun _ => 0, Nat.le_refl _, Nat.zero_le _, .inl rfl⟩
  · simp only [List.cons.injEq, Value.slice.injEq, and_true] at hcs
    obtain ⟨rfl, rfl, rfl⟩ := hcs
    simp only [if_true] at hmm
    subst hmm
    rw [cellsInt] at hel
    have each : ∀ i, i < len → ∃ t : Int, W.cell? (x.add i) = some (.int .i64 t) := by
      intro i hi
      obtain ⟨cs', h1, h2⟩ := hel i (by omega)
      obtain ⟨_, hlen, hcell⟩ := World.cells?_some h1
      match cs', hlen with
      | [v0], _ =>
        obtain ⟨t, e0, _, _⟩ := DataW.trod_int Try.underlying3 h2
        simp only [List.cons.injEq, and_true] at e0
        subst e0
        have c0 := hcell 0 (by omega)
        rw [Deep.add_add] at c0
        exact ⟨t, by simpa using c0⟩
    by_cases h0 : len = 0
    · exact ⟨fun _ => 0, hl, hm, .inl h0⟩
    · obtain ⟨T, hT⟩ := Deep.choose_lt each
      have hc0 := hT 0 (by omega)
      obtain ⟨blk, off, spot⟩ := x
      have hspot : spot = none := by
        have := World.cell?_spot hc0
        simpa [Addr.add] using this
      subst hspot
      have hblk : blk < W.heap.size := by
        have := World.block_lt_of_cell? W _ hc0
        simpa [Addr.add] using this
      have hadd : ∀ j, (⟨blk, off, none⟩ : Addr).add j = ⟨blk, off + j, none⟩ := by intro j; unfold Addr.add; split <;> simp_all
      refine ⟨T, hl, hm, .inr ⟨blk, off, rfl, hblk, fun i hi => ?_⟩⟩
      have h5 := hT i hi
      simpa only [hadd] using h5

end Go.Proofs.Ytoajgacofmodoaa

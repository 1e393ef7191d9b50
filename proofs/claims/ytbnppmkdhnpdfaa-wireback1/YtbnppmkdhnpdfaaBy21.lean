/-
  Names and tallies that came in.
-/
import Derived.Test.YtbnppmkdhnpdfaaRows
import Derived.Test.YtbnppmkdhnpdfaaBy5
import Derived.ProofKit
import Derived.OpenShut
import Derived.ShutString
import Derived.SizedLaws
import Derived.HandedShaped
import Derived.Lib.SmallJoins
import Derived.Deep.Slices
import Derived.Deep.Strs
import Derived.Deep.CondSized
import Derived.ChangeOld
import Derived.LaidLaws
import Derived.FnData
import Derived.Test.YtbnppmkdhnpdfaaBy7
namespace Go.Proofs.Ytbnppmkdhnpdfaa
open Go.ChangeShapes Go.WideShapes Go.ChangeAt Go.RowKit
set_option linter.unusedVariables false
theorem cellsName : Try.prog.cellsOf 23 = 3 := by kernel_rfl
theorem cellsTal : Try.prog.cellsOf 43 = 3 := by kernel_rfl
theorem cellsU64 : Try.prog.cellsOf 39 = 1 := by kernel_rfl
theorem cellsSum : Try.prog.cellsOf 41 = 2 := by kernel_rfl
variable {H : Type} {enc : TypeId × Value → H} {W : World}
set_option linter.unusedVariables false
theorem own : ownKnob Try.prog.godebug = none := by kernel_rfl
theorem laidOut : laidOutB Try.prog = true := by kernel_rfl
theorem cellsInt : Try.prog.cellsOf 3 = 1 := by kernel_rfl
theorem cellsStr : Try.prog.cellsOf 9 = 1 := by kernel_rfl
theorem cellsBool : Try.prog.cellsOf 4 = 1 := by kernel_rfl
set_option maxRecDepth 100000 in
set_option maxRecDepth 100000 in
/-- A tally's three cells, from their reading. -/
theorem tal_cells {b0 : Nat} {sp : Nat → Bool} {held : Bool} {fuel : Nat} {v0 v1 v2 : Value} {x : DataW H × List MemPlace} (h : DataW.trod enc Try.prog W b0 sp held fuel 43 [v0, v1, v2] = some x) :
    ∃ (n : Int) (a b : Nat), v0 = .int .i64 n ∧ v1 = .int .u64 (a : Int) ∧ v2 = .int .u64 (b : Int) ∧ (-9223372036854775808 ≤ n ∧ n ≤ 9223372036854775807) ∧ a < 18446744073709551616 ∧ b < 18446744073709551616 := by
  obtain ⟨y0, y1, m, rfl, _, h0, h1⟩ := trod_struct2 Try.underlying43 h
  simp [cellsInt, cellsSum] at h0 h1
  obtain ⟨n, e0, f0, w0⟩ := DataW.trod_int Try.underlying3 h0
  obtain ⟨xs, m', _, hx, hl, hxl, hel⟩ := DataW.trod_array Try.underlying41 h1
  rw [cellsU64] at hel
  have g0 := hel 0 (by omega)
  have g1 := hel 1 (by omega)
  match xs, hxl with
  | [x0, x1], _ =>
    simp at g0 g1
    obtain ⟨z0, e1, f1, w1⟩ := DataW.trod_int Try.underlying39 g0
    obtain ⟨z1, e2, f2, w2⟩ := DataW.trod_int Try.underlying39 g1
    simp only [List.cons.injEq, and_true] at e0 e1 e2
    subst e0 e1 e2
    have b1 := bounds_u64 w1
    have b2 := bounds_u64 w2
    refine ⟨n, z0.toNat, z1.toNat, rfl, ?_, ?_, bounds_i64 w0, by omega, by omega⟩
    · rw [show ((z0.toNat : Nat) : Int) = z0 from by omega]
    · rw [show ((z1.toNat : Nat) : Int) = z1 from by omega]
end Go.Proofs.Ytbnppmkdhnpdfaa

/-
  Arguments of these laws, from their reading to plain numbers, texts and entries.
-/
import Derived.Test.YtnjbglnkhgholabDoorIEnt
import Derived.ProofKit
import Derived.OpenShut
import Derived.ShutString
import Derived.SizedLaws
import Derived.HandedShaped
import Derived.Lib.SmallJoins
import Derived.Deep.Slices
import Derived.Deep.CondSized
import Derived.ChangeOld
namespace Go.Proofs.YtnjbglnkhgholabDoor
open Go.ChangeShapes Go.WideShapes Go.ChangeAt Go.RowKit
set_option linter.unusedVariables false

theorem own : ownKnob Tryd.prog.godebug = none := by kernel_rfl
theorem laidOut : laidOutB Tryd.prog = true := by kernel_rfl
theorem cellsVer : Tryd.prog.cellsOf 23 = 2 := by kernel_rfl
theorem cellsEnt : Tryd.prog.cellsOf 25 = 5 := by kernel_rfl
theorem cellsInt : Tryd.prog.cellsOf 3 = 1 := by kernel_rfl
theorem cellsStr : Tryd.prog.cellsOf 9 = 1 := by kernel_rfl
theorem cellsBool : Tryd.prog.cellsOf 4 = 1 := by kernel_rfl

variable {H : Type} {enc : TypeId × Value → H} {W : World}

set_option maxRecDepth 100000 in
theorem open_ver {b0 : Nat} {sp : Nat → Bool} {held : Bool} {v : Value} {d : DataW H} {p : List MemPlace} (hv : Value.okWide Tryd.prog W .any b0 23 v) (h : DataW.Trod enc Tryd.prog W 0 sp held 23 v d p) :
    ∃ (c n : Int), v = .agg #[.int .i64 c, .int .i64 n] ∧ (-9223372036854775808 ≤ c ∧ c ≤ 9223372036854775807) ∧ (-9223372036854775808 ≤ n ∧ n ≤ 9223372036854775807) := by
  obtain ⟨c0, c1, y0, y1, m, rfl, rfl, rfl, hy0, hy1⟩ := Joins.open_agg2 Tryd.underlying23 (by kernel_rfl) cellsVer hv h
  obtain ⟨c, e0, rfl, w0⟩ := DataW.trod_int Tryd.underlying3 hy0
  obtain ⟨n, e1, rfl, w1⟩ := DataW.trod_int Tryd.underlying3 hy1
  simp only [List.cons.injEq, and_true] at e0 e1
  subst e0 e1
  exact ⟨c, n, rfl, bounds_i64 w0, bounds_i64 w1⟩

theorem array5 {α : Type} {cs : Array α} (h : cs.size = 5) : ∃ c0 c1 c2 c3 c4, cs = #[c0, c1, c2, c3, c4] := by
  obtain ⟨l⟩ := cs
  match l, h with
  | [c0, c1, c2, c3, c4], _ => exact ⟨c0, c1, c2, c3, c4, rfl⟩

set_option maxRecDepth 100000 in
/-- An entry's five cells, from their reading. -/
theorem ent_cells {b0 : Nat} {sp : Nat → Bool} {held : Bool} {fuel : Nat} {v0 v1 v2 v3 v4 : Value} {x : DataW H × List MemPlace} (h : DataW.trod enc Tryd.prog W b0 sp held fuel 25 [v0, v1, v2, v3, v4] = some x) :
    ∃ (k : ByteArray) (c n : Int) (v : ByteArray) (d : Bool), v0 = .string k ∧ v1 = .int .i64 c ∧ v2 = .int .i64 n ∧ v3 = .string v ∧ v4 = .bool d ∧
      ((-9223372036854775808 ≤ c ∧ c ≤ 9223372036854775807) ∧ (-9223372036854775808 ≤ n ∧ n ≤ 9223372036854775807)) ∧ k.size ≤ maxLen ∧ v.size ≤ maxLen ∧
      x.1 = .agg [.lit (.string k.data.toList), .agg [.lit (.int .i64 c), .lit (.int .i64 n)], .lit (.string v.data.toList), .lit (.bool d)] := by
  obtain ⟨y0, y1, y2, y3, m, rfl, _, h0, h1, h2, h3⟩ := Joins.trod_struct4 Tryd.underlying25 h
  simp [cellsStr, cellsBool, cellsVer] at h0 h1 h2 h3
  obtain ⟨z0, z1, m', rfl, _, g0, g1⟩ := trod_struct2 Tryd.underlying23 h1
  simp [cellsInt] at g0 g1
  obtain ⟨k, e0, rfl, w0⟩ := DataW.trod_string Tryd.underlying9 h0
  obtain ⟨c, e1, rfl, w1⟩ := DataW.trod_int Tryd.underlying3 g0
  obtain ⟨n, e2, rfl, w2⟩ := DataW.trod_int Tryd.underlying3 g1
  obtain ⟨v, e3, rfl, w3⟩ := DataW.trod_string Tryd.underlying9 h2
  obtain ⟨d, e4, rfl⟩ := DataW.trod_bool Tryd.underlying4 h3
  simp only [List.cons.injEq, and_true] at e0 e1 e2 e3 e4
  exact ⟨k, c, n, v, d, e0, e1, e2, e3, e4, ⟨bounds_i64 w1, bounds_i64 w2⟩, w0, w3, rfl⟩

set_option maxRecDepth 100000 in
theorem open_ent {b0 : Nat} {sp : Nat → Bool} {held : Bool} {v : Value} {d : DataW H} {p : List MemPlace} (hv : Value.okWide Tryd.prog W .any b0 25 v) (h : DataW.Trod enc Tryd.prog W 0 sp held 25 v d p) :
    ∃ (k : ByteArray) (c n : Int) (v' : ByteArray) (d' : Bool), v = .agg #[.string k, .int .i64 c, .int .i64 n, .string v', .bool d'] ∧
      ((-9223372036854775808 ≤ c ∧ c ≤ 9223372036854775807) ∧ (-9223372036854775808 ≤ n ∧ n ≤ 9223372036854775807)) ∧ k.size ≤ maxLen ∧ v'.size ≤ maxLen ∧
      d = .agg [.lit (.string k.data.toList), .agg [.lit (.int .i64 c), .lit (.int .i64 n)], .lit (.string v'.data.toList), .lit (.bool d')] := by
  obtain ⟨cs, rfl, hsz⟩ := okWide_struct Tryd.underlying25 hv
  obtain ⟨c0, c1, c2, c3, c4, rfl⟩ := array5 (hsz.trans cellsEnt)
  obtain ⟨fuel, hf⟩ := h
  obtain ⟨k, c, n, v, d, rfl, rfl, rfl, rfl, rfl, hb, hk, hv, hd⟩ := ent_cells (x := (d, p)) (by simpa [Value.cells] using hf)
  exact ⟨k, c, n, v, d, rfl, hb, hk, hv, hd⟩

end Go.Proofs.YtnjbglnkhgholabDoor

/-
  Arguments of these laws, from their reading to plain numbers, texts, sums and entries; the table of lanes, from the row's list.
-/
import Derived.Test.YtfkdhambbpkmpaaDoorRows
import Derived.Test.YtfkdhambbpkmpaaDoorYMMix
import Derived.ProofKit
import Derived.OpenShut
import Derived.ShutString
import Derived.SizedLaws
import Derived.HandedShaped
import Derived.Lib.SmallJoins
import Derived.Deep.Slices
import Derived.Deep.Strs
import Derived.Deep.CondSized
import Derived.ChangeOld
import Derived.LaidLaws
import Derived.FnData
namespace Go.Proofs.YtfkdhambbpkmpaaDoor
open Go.ChangeShapes Go.WideShapes Go.ChangeAt Go.RowKit
set_option linter.unusedVariables false
theorem own : ownKnob Tryd.prog.godebug = none := by kernel_rfl

theorem laidOut : laidOutB Tryd.prog = true := by kernel_rfl

theorem cellsVer : Tryd.prog.cellsOf 53 = 2 := by kernel_rfl

theorem cellsEnt : Tryd.prog.cellsOf 55 = 5 := by kernel_rfl

theorem bytesEnt : Tryd.prog.bytesOf 55 = 56 := by kernel_rfl

theorem cellsInt : Tryd.prog.cellsOf 3 = 1 := by kernel_rfl

theorem cellsStr : Tryd.prog.cellsOf 9 = 1 := by kernel_rfl

theorem cellsBool : Tryd.prog.cellsOf 4 = 1 := by kernel_rfl

theorem cellsU64 : Tryd.prog.cellsOf 36 = 1 := by kernel_rfl

theorem cellsUint : Tryd.prog.cellsOf 97 = 1 := by kernel_rfl

theorem cellsSum : Tryd.prog.cellsOf 38 = 2 := by kernel_rfl

theorem cellsLane : Tryd.prog.cellsOf 99 = 3 := by kernel_rfl

theorem cellsLanes : Tryd.prog.cellsOf 100 = 6 := by kernel_rfl

theorem gLanes : Tryd.prog.globalNamed "tideline/mix.lanes" = some 0 := by kernel_rfl

theorem gLanesType : (Tryd.prog.globals[0]?).map (·.type) = some 100 := by kernel_rfl

variable {H : Type} {enc : TypeId × Value → H} {W : World}
set_option maxRecDepth 100000 in
/-- One row of the table, from its reading. -/
theorem lane_cells {b0 : Nat} {sp : Nat → Bool} {held : Bool} {fuel : Nat} {cs : List Value} {a f s : Int} {p : List MemPlace} (h : DataW.trod enc Tryd.prog W b0 sp held fuel 99 cs = some ((.agg [.lit (.int .u64 a), .lit (.int .u64 f), .lit (.int .u64 s)] : DataW H), p)) :
    cs = [.int .u64 a, .int .u64 f, .int .u64 s] := by
  obtain ⟨y0, y1, y2, m, hx, hl, h0, h1, h2⟩ := Deep.trod_struct3 Tryd.underlying99 h
  rw [cellsLane] at hl
  match cs, hl with
  | [v0, v1, v2], _ =>
    simp [cellsU64, cellsUint] at h0 h1 h2
    obtain ⟨z0, e0, rfl, -⟩ := DataW.trod_int Tryd.underlying36 h0
    obtain ⟨z1, e1, rfl, -⟩ := DataW.trod_int Tryd.underlying36 h1
    obtain ⟨z2, e2, rfl, -⟩ := DataW.trod_int Tryd.underlying97 h2
    simp only [List.cons.injEq, and_true] at e0 e1 e2
    subst e0 e1 e2
    simp at hx
    obtain ⟨⟨rfl, rfl, rfl⟩, -⟩ := hx
    rfl

set_option maxRecDepth 100000 in
theorem lanes_of {W : World} (h : laidMet Tryd.prog [("tideline/mix.lanes", Rows.laid_tideline_mix_lanes)] W) : Lanes W := by
  obtain ⟨ps, ⟨g', t', cs, fuel, p, q, hg', ht', hvar, hd, _, _⟩, _⟩ := h
  obtain rfl := Option.some.inj (gLanes.symm.trans hg')
  obtain rfl := Option.some.inj (gLanesType.symm.trans ht')
  obtain ⟨xs, m, _, hx, hl, hxl, hel⟩ := DataW.trod_array Tryd.underlying100 hd
  rw [cellsLanes] at hl
  rw [cellsLane] at hel
  match xs, hxl with
  | [x0, x1], _ =>
    have g0 := hel 0 (by omega)
    have g1 := hel 1 (by omega)
    simp only [Rows.laid_tideline_mix_lanes, Prod.mk.injEq, List.map_cons, List.map_nil, DataW.agg.injEq, List.cons.injEq, and_true] at hx
    obtain ⟨⟨q0, q1⟩, -⟩ := hx
    have e0 := lane_cells (p := x0.2) (g0.trans (by rw [List.getElem?_cons_zero, q0]))
    have e1 := lane_cells (p := x1.2) (g1.trans (by rw [List.getElem?_cons_succ, List.getElem?_cons_zero, q1]))
    obtain ⟨l⟩ := cs
    match l, hl with
    | [v0, v1, v2, v3, v4, v5], _ =>
      simp at e0 e1
      obtain ⟨rfl, rfl, rfl⟩ := e0
      obtain ⟨rfl, rfl, rfl⟩ := e1
      exact ⟨World.var?_cell gLanes hvar 0, World.var?_cell gLanes hvar 1, World.var?_cell gLanes hvar 2, World.var?_cell gLanes hvar 3, World.var?_cell gLanes hvar 4, World.var?_cell gLanes hvar 5⟩

set_option maxRecDepth 100000 in
theorem open_ver {b0 : Nat} {sp : Nat → Bool} {held : Bool} {v : Value} {d : DataW H} {p : List MemPlace} (hv : Value.okWide Tryd.prog W .any b0 53 v) (h : DataW.Trod enc Tryd.prog W 0 sp held 53 v d p) :
    ∃ (c n : Int), v = .agg #[.int .i64 c, .int .i64 n] ∧ (-9223372036854775808 ≤ c ∧ c ≤ 9223372036854775807) ∧ (-9223372036854775808 ≤ n ∧ n ≤ 9223372036854775807) := by
  obtain ⟨c0, c1, y0, y1, m, rfl, rfl, rfl, hy0, hy1⟩ := Joins.open_agg2 Tryd.underlying53 (by kernel_rfl) cellsVer hv h
  obtain ⟨c, e0, rfl, w0⟩ := DataW.trod_int Tryd.underlying3 hy0
  obtain ⟨n, e1, rfl, w1⟩ := DataW.trod_int Tryd.underlying3 hy1
  simp only [List.cons.injEq, and_true] at e0 e1
  subst e0 e1
  exact ⟨c, n, rfl, bounds_i64 w0, bounds_i64 w1⟩

theorem str_size {s : ByteArray} (h : ∀ n ∈ (DataW.lit (.string s.data.toList) : DataW H).weights Tryd.prog 9, n ≤ reachBytes) : s.size ≤ 140737488351232 := by
  have := h s.data.toList.length (by simp [DataW.weights])
  have e : s.data.toList.length = s.size := by show s.data.toList.length = s.data.size; simp
  rw [e] at this
  exact this

set_option maxRecDepth 100000 in
/-- A sum, opened: its two numbers, of 64 bits. -/
theorem open_sum {b0 : Nat} {sp : Nat → Bool} {held : Bool} {v : Value} {d : DataW H} {p : List MemPlace} (hv : Value.okWide Tryd.prog W .any b0 38 v) (h : DataW.Trod enc Tryd.prog W 0 sp held 38 v d p) :
    ∃ (a b : Nat), v = .agg #[.int .u64 (a : Int), .int .u64 (b : Int)] ∧ a < 18446744073709551616 ∧ b < 18446744073709551616 := by
  simp only [Value.okWide, Tryd.underlying38] at hv
  obtain ⟨cs, rfl, hsz, _⟩ := hv
  rw [cellsSum] at hsz
  obtain ⟨fuel, hf⟩ := h
  obtain ⟨xs, m, _, hx, hl, hxl, hel⟩ := DataW.trod_array Tryd.underlying38 hf
  rw [cellsU64] at hel
  obtain ⟨l⟩ := cs
  match xs, hxl, l, hsz with
  | [x0, x1], _, [v0, v1], _ =>
    have g0 := hel 0 (by omega)
    have g1 := hel 1 (by omega)
    simp [Value.cells] at g0 g1
    obtain ⟨z0, e0, f0, w0⟩ := DataW.trod_int Tryd.underlying36 g0
    obtain ⟨z1, e1, f1, w1⟩ := DataW.trod_int Tryd.underlying36 g1
    simp only [List.cons.injEq, and_true] at e0 e1
    subst e0 e1
    have b0 := bounds_u64 w0
    have b1 := bounds_u64 w1
    refine ⟨z0.toNat, z1.toNat, ?_, by omega, by omega⟩
    rw [show ((z0.toNat : Nat) : Int) = z0 from by omega, show ((z1.toNat : Nat) : Int) = z1 from by omega]

end Go.Proofs.YtfkdhambbpkmpaaDoor

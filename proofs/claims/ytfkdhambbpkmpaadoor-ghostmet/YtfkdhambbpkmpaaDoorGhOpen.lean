/-
  A Config that came in.
-/
import Derived.Test.YtfkdhambbpkmpaaDoorYMOpen
namespace Go.Proofs.YtfkdhambbpkmpaaDoor
open Go.ChangeShapes Go.WideShapes Go.ChangeAt Go.RowKit
set_option linter.unusedVariables false
variable {H : Type} {enc : TypeId × Value → H} {W : World}
theorem cellsCfg : Tryd.prog.cellsOf 44 = 4 := by kernel_rfl
set_option maxRecDepth 100000 in
theorem open_cfg {b0 : Nat} {sp : Nat → Bool} {held : Bool} {v : Value} {d : DataW H} {p : List MemPlace} (hv : Value.okWide Tryd.prog W .any b0 44 v) (h : DataW.Trod enc Tryd.prog W 0 sp held 44 v d p) :
    ∃ (a l n r : Int), v = .agg #[.int .i64 a, .int .i64 l, .int .i64 n, .int .i64 r] := by
  obtain ⟨c0, c1, c2, c3, y0, y1, y2, y3, m, rfl, rfl, rfl, hy0, hy1, hy2, hy3⟩ := Joins.open_agg4 Tryd.underlying44 (by kernel_rfl) cellsCfg hv h
  obtain ⟨a, e0, -, w0⟩ := DataW.trod_int Tryd.underlying3 hy0
  obtain ⟨l, e1, -, w1⟩ := DataW.trod_int Tryd.underlying3 hy1
  obtain ⟨n, e2, -, w2⟩ := DataW.trod_int Tryd.underlying3 hy2
  obtain ⟨r, e3, -, w3⟩ := DataW.trod_int Tryd.underlying3 hy3
  simp only [List.cons.injEq, and_true] at e0 e1 e2 e3
  subst e0 e1 e2 e3
  exact ⟨a, l, n, r, rfl⟩

end Go.Proofs.YtfkdhambbpkmpaaDoor

/-
  Proved: for every two slices of bytes the law WireOnce returns true and leaves its arguments as they were: what Decode reads is written so again by Encode, what it refuses is told as ErrFrame with the zero frame, and the bytes of two frames are the same just if the frames are, and never the beginning of one another. No condition.
  Names and tallies that came in.
-/
import Derived.Test.YtbnppmkdhnpdfaaRows
import Derived.Test.YtbnppmkdhnpdfaaBwireonce5
import Derived.ProofKit
import Derived.OpenShut
import Derived.ShutString
import Derived.SizedLaws
import Derived.HandedShaped
import Derived.Lib.SmallJoins
import Derived.Deep.Slices
import Derived.Deep.Strs
import Derived.Deep.CondSized
import Derived.ChangeOld
import Derived.LaidLaws
import Derived.FnData
import Derived.Test.YtbnppmkdhnpdfaaBwireonce6
import Derived.Test.YtbnppmkdhnpdfaaBwireonce18
namespace Go.Proofs.Ytbnppmkdhnpdfaa
open Go.ChangeShapes Go.WideShapes Go.ChangeAt Go.RowKit
set_option linter.unusedVariables false
theorem cellsName : Try.prog.cellsOf 23 = 3 := by kernel_rfl
theorem cellsTal : Try.prog.cellsOf 43 = 3 := by kernel_rfl
theorem cellsU64 : Try.prog.cellsOf 39 = 1 := by kernel_rfl
theorem cellsSum : Try.prog.cellsOf 41 = 2 := by kernel_rfl
variable {H : Type} {enc : TypeId × Value → H} {W : World}
set_option linter.unusedVariables false
theorem own : ownKnob Try.prog.godebug = none := by kernel_rfl
theorem laidOut : laidOutB Try.prog = true := by kernel_rfl
theorem cellsInt : Try.prog.cellsOf 3 = 1 := by kernel_rfl
theorem cellsStr : Try.prog.cellsOf 9 = 1 := by kernel_rfl
theorem cellsBool : Try.prog.cellsOf 4 = 1 := by kernel_rfl
set_option maxRecDepth 100000 in
theorem open_name {b0 : Nat} {sp : Nat → Bool} {held : Bool} {v : Value} {d : DataW H} {p : List MemPlace} (hv : Value.okWide Try.prog W .any b0 23 v) (h : DataW.Trod enc Try.prog W 0 sp held 23 v d p) :
    ∃ (a l n : Int), v = .agg #[.int .i64 a, .int .i64 l, .int .i64 n] ∧ (-9223372036854775808 ≤ a ∧ a ≤ 9223372036854775807) ∧ (-9223372036854775808 ≤ l ∧ l ≤ 9223372036854775807) ∧ (-9223372036854775808 ≤ n ∧ n ≤ 9223372036854775807) := by
  obtain ⟨c0, c1, c2, y0, y1, y2, m, rfl, rfl, rfl, hy0, hy1, hy2⟩ := Joins.open_agg3 Try.underlying23 (by kernel_rfl) cellsName hv h
  obtain ⟨a, e0, -, w0⟩ := DataW.trod_int Try.underlying3 hy0
  obtain ⟨l, e1, -, w1⟩ := DataW.trod_int Try.underlying3 hy1
  obtain ⟨n, e2, -, w2⟩ := DataW.trod_int Try.underlying3 hy2
  simp only [List.cons.injEq, and_true] at e0 e1 e2
  subst e0 e1 e2
  exact ⟨a, l, n, rfl, bounds_i64 w0, bounds_i64 w1, bounds_i64 w2⟩
set_option maxRecDepth 100000 in
set_option maxRecDepth 100000 in
/-- A tally's three cells, from their reading. -/
theorem tal_cells {b0 : Nat} {sp : Nat → Bool} {held : Bool} {fuel : Nat} {v0 v1 v2 : Value} {x : DataW H × List MemPlace} (h : DataW.trod enc Try.prog W b0 sp held fuel 43 [v0, v1, v2] = some x) :
    ∃ (n : Int) (a b : Nat), v0 = .int .i64 n ∧ v1 = .int .u64 (a : Int) ∧ v2 = .int .u64 (b : Int) ∧ (-9223372036854775808 ≤ n ∧ n ≤ 9223372036854775807) ∧ a < 18446744073709551616 ∧ b < 18446744073709551616 := by
  obtain ⟨y0, y1, m, rfl, _, h0, h1⟩ := trod_struct2 Try.underlying43 h
  simp [cellsInt, cellsSum] at h0 h1
  obtain ⟨n, e0, f0, w0⟩ := DataW.trod_int Try.underlying3 h0
  obtain ⟨xs, m', _, hx, hl, hxl, hel⟩ := DataW.trod_array Try.underlying41 h1
  rw [cellsU64] at hel
  have g0 := hel 0 (by omega)
  have g1 := hel 1 (by omega)
  match xs, hxl with
  | [x0, x1], _ =>
    simp at g0 g1
    obtain ⟨z0, e1, f1, w1⟩ := DataW.trod_int Try.underlying39 g0
    obtain ⟨z1, e2, f2, w2⟩ := DataW.trod_int Try.underlying39 g1
    simp only [List.cons.injEq, and_true] at e0 e1 e2
    subst e0 e1 e2
    have b1 := bounds_u64 w1
    have b2 := bounds_u64 w2
    refine ⟨n, z0.toNat, z1.toNat, rfl, ?_, ?_, bounds_i64 w0, by omega, by omega⟩
    · rw [show ((z0.toNat : Nat) : Int) = z0 from by omega]
    · rw [show ((z1.toNat : Nat) : Int) = z1 from by omega]
theorem array3 {α : Type} {cs : Array α} (h : cs.size = 3) : ∃ c0 c1 c2, cs = #[c0, c1, c2] := by
  obtain ⟨l⟩ := cs
  match l, h with
  | [c0, c1, c2], _ => exact ⟨c0, c1, c2, rfl⟩
set_option maxRecDepth 100000 in
theorem open_tal {b0 : Nat} {sp : Nat → Bool} {held : Bool} {v : Value} {d : DataW H} {p : List MemPlace} (hv : Value.okWide Try.prog W .any b0 43 v) (h : DataW.Trod enc Try.prog W 0 sp held 43 v d p) :
    ∃ (n : Int) (a b : Nat), v = .agg #[.int .i64 n, .int .u64 (a : Int), .int .u64 (b : Int)] ∧ (-9223372036854775808 ≤ n ∧ n ≤ 9223372036854775807) ∧ a < 18446744073709551616 ∧ b < 18446744073709551616 := by
  obtain ⟨cs, rfl, hsz⟩ := okWide_struct Try.underlying43 hv
  obtain ⟨c0, c1, c2, rfl⟩ := array3 (hsz.trans cellsTal)
  obtain ⟨fuel, hf⟩ := h
  obtain ⟨n, a, b, rfl, rfl, rfl, h1, h2, h3⟩ := tal_cells (x := (d, p)) (by simpa [Value.cells] using hf)
  exact ⟨n, a, b, rfl, h1, h2, h3⟩
end Go.Proofs.Ytbnppmkdhnpdfaa
namespace Go.Proofs.Ytbnppmkdhnpdfaa.wireOnce
open Go.ChangeShapes Go.WideShapes Go.ChangeAt Go.RowKit
open Go.ChangeMaps (open_string shut_string)
set_option linter.unusedVariables false

set_option maxRecDepth 100000 in
theorem lifted (os : Os) (started : os.Started) (H : Type) (enc : TypeId × Value → H) :
    ReturnsInHanded {} Try.checked os 6 .any (Rows.wireOnceSpec.pre6 enc Try.prog Try.f6 Rows.wireOnceRow.domain false) (Rows.wireOnceSpec.post enc Try.prog Try.f6 false true false false) := by
  refine returnsInHanded_of_change_shaped (C := Try.checked) own started (by kernel_rfl) Try.func6
    (ChangeSpec.witness6 (enc := enc) (C := Try.checked) false ⟨#[], #[.slice none 0 0, .slice none 0 0], []⟩ 8 (by kernel_rfl) (by kernel_rfl) (by kernel_rfl) (by kernel_rfl)) ?_
  intro W base args ds gs before hval0 hW hcnd _ hsh _
  have hval : ∀ (j : Nat) t v, Try.f6.params[j]? = some t → args[j]? = some v → Value.okWide Try.prog W .any base t v := hval0
  have hW' := hW
  obtain ⟨p, q, hA0, hV, rfl, hfz, hnd⟩ := hW
  have hA : DataW.TrodAll enc Try.prog W 0 (fun _ => true) true Try.f6.params.toList args.toList ds p := hA0
  rw [Try.params6] at hA hval
  obtain ⟨v0, vs0, d0, ds0, p0, q0, hargs0, rfl, rfl, h0, r0⟩ := trodAll_cons hA
  obtain ⟨v1, vs1, d1, ds1, p1, q1, hargs1, rfl, rfl, h1, r1⟩ := trodAll_cons r0
  obtain ⟨rfl, rfl, rfl⟩ := trodAll_nil r1
  subst hargs1
  obtain rfl : args = #[v0, v1] := by cases args; simp_all
  obtain ⟨rfl, rfl⟩ := trodVars_none hV
  obtain ⟨a0, len0, cap0, rfl⟩ := okWide_slice Try.underlying30 (hval 0 30 v0 rfl rfl)
  have k0 := h0
  have lt0 : ∀ x ∈ p0, x.block < W.heap.size := by obtain ⟨m, hm⟩ := k0; exact DataW.trod_lt m _ _ _ hm
  obtain ⟨y0, w0⟩ : ∃ zs, IsRow W a0 len0 cap0 zs := by
    obtain ⟨fuel, hf⟩ := h0
    rcases open_ints Try.underlying30 Try.underlying5 (by kernel_rfl) hf with ⟨hcs, _⟩ | ⟨x, l, c, zs, hcs, _, hl, hm, hz, _, hcell, hwz⟩
    · simp [Value.cells] at hcs
      obtain ⟨rfl, rfl, rfl⟩ := hcs
      exact ⟨[], .inl ⟨rfl, rfl, rfl, rfl⟩⟩
    · simp [Value.cells] at hcs
      obtain ⟨rfl, rfl, rfl⟩ := hcs
      exact ⟨zs, .inr ⟨_, rfl, hl, hm, by simpa using hz, hcell, hwz⟩⟩
  obtain ⟨a1, len1, cap1, rfl⟩ := okWide_slice Try.underlying30 (hval 1 30 v1 rfl rfl)
  have k1 := h1
  have lt1 : ∀ x ∈ p1, x.block < W.heap.size := by obtain ⟨m, hm⟩ := k1; exact DataW.trod_lt m _ _ _ hm
  obtain ⟨y1, w1⟩ : ∃ zs, IsRow W a1 len1 cap1 zs := by
    obtain ⟨fuel, hf⟩ := h1
    rcases open_ints Try.underlying30 Try.underlying5 (by kernel_rfl) hf with ⟨hcs, _⟩ | ⟨x, l, c, zs, hcs, _, hl, hm, hz, _, hcell, hwz⟩
    · simp [Value.cells] at hcs
      obtain ⟨rfl, rfl, rfl⟩ := hcs
      exact ⟨[], .inl ⟨rfl, rfl, rfl, rfl⟩⟩
    · simp [Value.cells] at hcs
      obtain ⟨rfl, rfl, rfl⟩ := hcs
      exact ⟨zs, .inr ⟨_, rfl, hl, hm, by simpa using hz, hcell, hwz⟩⟩
  clear hA0 hval0
  refine (wonce_walk a0 len0 cap0 _ a1 len1 cap1 _ W (ArgB.of_row w0) (ArgB.of_row w1)).mono fun e W' ⟨he, bel⟩ => ?_
  subst he
  exact ⟨_, rfl, _, _, _, [], _, [], hW', trodAll_mk1 (shut_bool Try.underlying4 _), (trodAll_cons_mk (Below.trod laidOut (by kernel_rfl) (of_decide_eq_true (by kernel_rfl)) k0 bel lt0) (trodAll_cons_mk (Below.trod laidOut (by kernel_rfl) (of_decide_eq_true (by kernel_rfl)) k1 bel lt1) trodAll_mk0)), rfl, bel.frame _, fun h => by cases h⟩

theorem over : Rows.wireOnceRow.holds Try.pinned (OpenSpec.ofChange Rows.wireOnceSpec) :=
  OpenClaim.holds_of_wide 6 Try.f6 rfl rfl rfl rfl rfl rfl rfl ⟨rfl, rfl, rfl, rfl, rfl⟩ rfl rfl rfl rfl rfl (by kernel_rfl) Try.func6 (by kernel_rfl)
    (of_decide_eq_true (by kernel_rfl)) (by unfold Func.isWrapper; first | (rw [if_pos (by decide +kernel)]; kernel_rfl) | (rw [if_neg (by decide +kernel)]; exact ⟨rfl, rfl⟩))
    (fun os started H enc _ => lifted os started H enc)

end Go.Proofs.Ytbnppmkdhnpdfaa.wireOnce
namespace Go.Proofs.Ytbnppmkdhnpdfaa
theorem wireOnce_holds : Rows.WireOnceSaid := wireOnce.over
end Go.Proofs.Ytbnppmkdhnpdfaa

/-
  The law SpanPairs, walked: it returns true at any two ranges.
-/
import Derived.Test.YtidajlnaehhkkaaLKeep
namespace Go.Proofs.Ytidajlnaehhkkaa
open Go.RowKit

set_option maxRecDepth 100000 in
set_option maxHeartbeats 6400000 in
theorem pairs_walk (alo ahi blo bhi : ByteArray) (aop bop : Bool) (w : World) (hw : MaxAt w) :
    Calls Try.prog 4 #[.agg #[.string alo, .string ahi, .bool aop], .agg #[.string blo, .string bhi, .bool bop]] w fun e w' => e = .returned (.bool true) ∧ Below w.heap.size w w' := by
  have hM := meetV_eq (Rg.meet ⟨alo, ahi, aop⟩ ⟨blo, bhi, bop⟩)
  have hM' := hM
  rw [← meet_comm] at hM'
  obtain ⟨xlo, hx1⟩ : ∃ x, metLo (Rg.meet ⟨alo, ahi, aop⟩ ⟨blo, bhi, bop⟩) = x := ⟨_, rfl⟩
  obtain ⟨xhi, hx2⟩ : ∃ x, metHi (Rg.meet ⟨alo, ahi, aop⟩ ⟨blo, bhi, bop⟩) = x := ⟨_, rfl⟩
  obtain ⟨xop, hx3⟩ : ∃ x, metOp (Rg.meet ⟨alo, ahi, aop⟩ ⟨blo, bhi, bop⟩) = x := ⟨_, rfl⟩
  obtain ⟨is, hx4⟩ : ∃ x, metIs (Rg.meet ⟨alo, ahi, aop⟩ ⟨blo, bhi, bop⟩) = x := ⟨_, rfl⟩
  have hM2 : Rg.meetV (Rg.meet ⟨blo, bhi, bop⟩ ⟨alo, ahi, aop⟩) = .tuple #[.agg #[.string xlo, .string xhi, .bool xop], .bool is] := by rw [meet_comm, hM, hx1, hx2, hx3, hx4]
  rw [hx1, hx2, hx3, hx4] at hM
  obtain ⟨q1, hq1⟩ : ∃ q, withR ⟨alo, ahi, aop⟩ ⟨blo, bhi, bop⟩ = q := ⟨_, rfl⟩
  obtain ⟨q2, hq2⟩ : ∃ q, withR ⟨blo, bhi, bop⟩ ⟨alo, ahi, aop⟩ = q := ⟨_, rfl⟩
  have C1 := aside (fun w => meet_at hM w)
  have C2 := aside (fun w => meetRef_at hM w)
  have C3 := aside (fun w => meet_at hM2 w)
  have D1 := aside (fun w => within_at hq1 w)
  have D2 := aside (fun w => withinRef_at hq1 w)
  have D3 := aside (fun w => within_at hq2 w)
  have D4 := aside (fun w => withinRef_at hq2 w)
  have C0 := aside (fun w h => shown_any w h)
  have HW := aside hw
  clear hw hM hM' hM2 hx1 hx2 hx3 hx4 hq1 hq2
  go_enter Try.func4, Try.ntmps4
  go_wp2_with fail
  refine (C0.out _ (HW.out.below (bthen (bnew w _) (bnew _ _)))).mono ?_
  rintro e w1 ⟨rfl, b1⟩
  obtain ⟨kA, kB, b01⟩ := two_new b1
  obtain ⟨⟨a0, a1, a2⟩, -⟩ := box_out kA
  obtain ⟨⟨c0, c1, c2⟩, -⟩ := box_out kB
  have KA := aside kA; have KB := aside kB
  clear b1 kA kB HW C0
  go_wp2_with fail
  refine (C1.out _).mono ?_
  rintro e w2 ⟨rfl, b2⟩
  have b02 := bthen b01 b2
  have kA := keep KA.out b2; have kB := keep KB.out b2
  clear a0 a1 a2 c0 c1 c2 KA KB b2 C1 b01
  have KA := aside (keepA (p := .cells #[.string xlo, .string xhi, .bool xop] 23) kA); have KB := aside (keepA (p := .cells #[.string xlo, .string xhi, .bool xop] 23) kB); have KX := aside (heap_new w2 (.cells #[.string xlo, .string xhi, .bool xop] 23))
  have b03 := bthen b02 (bnew w2 (.cells #[.string xlo, .string xhi, .bool xop] 23))
  obtain ⟨⟨a0, a1, a2⟩, -⟩ := box_out kA
  obtain ⟨⟨c0, c1, c2⟩, -⟩ := box_out kB
  have n1 := lies kA; have n2 := lies kB
  clear kA kB b02
  go_wp2_with fail
  refine (C2.out _).mono ?_
  rintro e w3 ⟨rfl, b3⟩
  have b04 := bthen b03 b3
  have kA := keep KA.out b3; have kB := keep KB.out b3; have kX := keep KX.out b3
  clear a0 a1 a2 c0 c1 c2 KA KB KX b3 C2 b03 n1 n2
  have KA := aside (keepA (p := .cells #[.string xlo, .string xhi, .bool xop] 23) kA); have KB := aside (keepA (p := .cells #[.string xlo, .string xhi, .bool xop] 23) kB); have KX := aside (keepA (p := .cells #[.string xlo, .string xhi, .bool xop] 23) kX); have KY := aside (heap_new w3 (.cells #[.string xlo, .string xhi, .bool xop] 23))
  have b05 := bthen b04 (bnew w3 (.cells #[.string xlo, .string xhi, .bool xop] 23))
  obtain ⟨⟨a0, a1, a2⟩, -⟩ := box_out kA
  obtain ⟨⟨c0, c1, c2⟩, -⟩ := box_out kB
  have n1 := lies kA; have n2 := lies kB
  clear kA kB kX b04
  go_wp2_with fail
  refine (C3.out _).mono ?_
  rintro e w4 ⟨rfl, b4⟩
  have b06 := bthen b05 b4
  have kA := keep KA.out b4; have kB := keep KB.out b4; have kX := keep KX.out b4; have kY := keep KY.out b4
  clear a0 a1 a2 c0 c1 c2 KA KB KX KY b4 C3 b05 n1 n2
  have b07 := bthen b06 (bnew w4 (.cells #[.string xlo, .string xhi, .bool xop] 23))
  have XA := (box_out (keepA (p := .cells #[.string xlo, .string xhi, .bool xop] 23) kA)).1; have XB := (box_out (keepA (p := .cells #[.string xlo, .string xhi, .bool xop] 23) kB)).1; have XX := (box_out (keepA (p := .cells #[.string xlo, .string xhi, .bool xop] 23) kX)).1; have XY := (box_out (keepA (p := .cells #[.string xlo, .string xhi, .bool xop] 23) kY)).1; have XZ := (box_out (heap_new w4 (.cells #[.string xlo, .string xhi, .bool xop] 23))).1
  have S0 : Hid (Below w.heap.size w (w4.alloc (.cells #[.string xlo, .string xhi, .bool xop] 23)).drew ∧ (w4.alloc (.cells #[.string xlo, .string xhi, .bool xop] 23)).drew.cell? ⟨w.heap.size, 0, none⟩ = some (.string alo) ∧ (w4.alloc (.cells #[.string xlo, .string xhi, .bool xop] 23)).drew.cell? ⟨w.heap.size, 1, none⟩ = some (.string ahi) ∧ (w4.alloc (.cells #[.string xlo, .string xhi, .bool xop] 23)).drew.cell? ⟨w.heap.size, 2, none⟩ = some (.bool aop) ∧ (w4.alloc (.cells #[.string xlo, .string xhi, .bool xop] 23)).drew.cell? ⟨w.heap.size + 1, 0, none⟩ = some (.string blo) ∧ (w4.alloc (.cells #[.string xlo, .string xhi, .bool xop] 23)).drew.cell? ⟨w.heap.size + 1, 1, none⟩ = some (.string bhi) ∧ (w4.alloc (.cells #[.string xlo, .string xhi, .bool xop] 23)).drew.cell? ⟨w.heap.size + 1, 2, none⟩ = some (.bool bop) ∧ (w4.alloc (.cells #[.string xlo, .string xhi, .bool xop] 23)).drew.cell? ⟨w2.heap.size, 0, none⟩ = some (.string xlo) ∧ (w4.alloc (.cells #[.string xlo, .string xhi, .bool xop] 23)).drew.cell? ⟨w2.heap.size, 1, none⟩ = some (.string xhi) ∧ (w4.alloc (.cells #[.string xlo, .string xhi, .bool xop] 23)).drew.cell? ⟨w2.heap.size, 2, none⟩ = some (.bool xop) ∧ (w4.alloc (.cells #[.string xlo, .string xhi, .bool xop] 23)).drew.cell? ⟨w3.heap.size, 0, none⟩ = some (.string xlo) ∧ (w4.alloc (.cells #[.string xlo, .string xhi, .bool xop] 23)).drew.cell? ⟨w3.heap.size, 1, none⟩ = some (.string xhi) ∧ (w4.alloc (.cells #[.string xlo, .string xhi, .bool xop] 23)).drew.cell? ⟨w3.heap.size, 2, none⟩ = some (.bool xop) ∧ (w4.alloc (.cells #[.string xlo, .string xhi, .bool xop] 23)).drew.cell? ⟨w4.heap.size, 0, none⟩ = some (.string xlo) ∧ (w4.alloc (.cells #[.string xlo, .string xhi, .bool xop] 23)).drew.cell? ⟨w4.heap.size, 1, none⟩ = some (.string xhi) ∧ (w4.alloc (.cells #[.string xlo, .string xhi, .bool xop] 23)).drew.cell? ⟨w4.heap.size, 2, none⟩ = some (.bool xop)) := ⟨b07.drew, XA.1, XA.2.1, XA.2.2, XB.1, XB.2.1, XB.2.2, XX.1, XX.2.1, XX.2.2, XY.1, XY.2.1, XY.2.2, XZ⟩
  clear kA kB kX kY b06 b07 XA XB XX XY XZ
  go_wp2_with fail
  generalize w4.alloc (.cells #[.string xlo, .string xhi, .bool xop] 23) = W0 at *
  go_region_held3 (fun W => Below w.heap.size w W ∧ W.cell? ⟨w.heap.size, 0, none⟩ = some (.string alo) ∧ W.cell? ⟨w.heap.size, 1, none⟩ = some (.string ahi) ∧ W.cell? ⟨w.heap.size, 2, none⟩ = some (.bool aop) ∧ W.cell? ⟨w.heap.size + 1, 0, none⟩ = some (.string blo) ∧ W.cell? ⟨w.heap.size + 1, 1, none⟩ = some (.string bhi) ∧ W.cell? ⟨w.heap.size + 1, 2, none⟩ = some (.bool bop) ∧ W.cell? ⟨w2.heap.size, 0, none⟩ = some (.string xlo) ∧ W.cell? ⟨w2.heap.size, 1, none⟩ = some (.string xhi) ∧ W.cell? ⟨w2.heap.size, 2, none⟩ = some (.bool xop) ∧ W.cell? ⟨w3.heap.size, 0, none⟩ = some (.string xlo) ∧ W.cell? ⟨w3.heap.size, 1, none⟩ = some (.string xhi) ∧ W.cell? ⟨w3.heap.size, 2, none⟩ = some (.bool xop) ∧ W.cell? ⟨w4.heap.size, 0, none⟩ = some (.string xlo) ∧ W.cell? ⟨w4.heap.size, 1, none⟩ = some (.string xhi) ∧ W.cell? ⟨w4.heap.size, 2, none⟩ = some (.bool xop)) (first | (exact keep5 (by assumption) bb) | (exact S0.out) | assumption | go_keep)
    (first | (go_at_call 18; refine (D1.out _).mono ?_; clear D1; rintro e w1 ⟨rfl, bb⟩) | (go_at_call 18; refine (D3.out _).mono ?_; clear D3; rintro e w1 ⟨rfl, bb⟩) | (go_at_call 19; refine (D2.out _).mono ?_; clear D2; rintro e w1 ⟨rfl, bb⟩) | (go_at_call 19; refine (D4.out _).mono ?_; clear D4; rintro e w1 ⟨rfl, bb⟩))
  all_goals
    go_wp2
    go_ret
    rename_i hh
    exact ⟨rfl, hh.1⟩

end Go.Proofs.Ytidajlnaehhkkaa

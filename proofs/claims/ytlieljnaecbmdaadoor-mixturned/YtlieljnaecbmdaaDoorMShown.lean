/-
  The document's examples at the head of each law: they hold.
-/
import Derived.Test.YtlieljnaecbmdaaDoorMAdd
import Derived.Test.YtlieljnaecbmdaaDoorMOf
import Derived.Test.YtlieljnaecbmdaaDoorMTxt
import Derived.Test.YtlieljnaecbmdaaDoorMEq
namespace Go.Proofs.YtlieljnaecbmdaaDoor
open Go.RowKit
set_option linter.unusedVariables false

theorem ofV_shown : ofV ⟨#[97, 98, 99, 100, 101, 102, 103, 104, 105]⟩ 5 2 = .agg #[.int .u64 14210195330942416807, .int .u64 13079631299086425565] := by kernel_rfl

theorem parseV_shown : parseV [48, 48, 48, 48, 48, 48, 48, 48, 48, 48, 48, 48, 48, 48, 48, 102, 48, 48, 48, 48, 48, 48, 48, 48, 48, 48, 48, 48, 48, 48, 97, 48] = .tuple #[.agg #[.int .u64 15, .int .u64 160], .int .i64 0] := by kernel_rfl

theorem txt_shown : (⟨(txtL 14210195330942416807 13079631299086425565).toArray⟩ : ByteArray) = ⟨#[99, 53, 51, 52, 99, 49, 53, 100, 53, 57, 98, 99, 98, 55, 97, 55, 98, 53, 56, 52, 50, 102, 53, 101, 49, 102, 50, 48, 57, 100, 100, 100]⟩ := by kernel_rfl

set_option maxHeartbeats 1600000 in
set_option maxRecDepth 100000 in
theorem shown_any (w : World) (L : Lanes w) : Calls Tryd.prog 9 #[] w fun e w' => e = .returned (.bool true) ∧ Below w.heap.size w w' := by
  have C1 := aside (fun (W : World) (h : Lanes W) => of_any ⟨#[97, 98, 99, 100, 101, 102, 103, 104, 105]⟩ 5 2 W h (by decide))
  rw [ofV_shown] at C1
  have C2 := aside (fun (W : World) => parse_any ⟨#[48, 48, 48, 48, 48, 48, 48, 48, 48, 48, 48, 48, 48, 48, 48, 102, 48, 48, 48, 48, 48, 48, 48, 48, 48, 48, 48, 48, 48, 48, 97, 48]⟩ W)
  have hl : (⟨#[48, 48, 48, 48, 48, 48, 48, 48, 48, 48, 48, 48, 48, 48, 48, 102, 48, 48, 48, 48, 48, 48, 48, 48, 48, 48, 48, 48, 48, 48, 97, 48]⟩ : ByteArray).data.toList = [48, 48, 48, 48, 48, 48, 48, 48, 48, 48, 48, 48, 48, 48, 48, 102, 48, 48, 48, 48, 48, 48, 48, 48, 48, 48, 48, 48, 48, 48, 97, 48] := rfl
  rw [hl, parseV_shown] at C2
  have C3 := aside (fun (W : World) => print_any 14210195330942416807 13079631299086425565 W (by decide) (by decide))
  rw [txt_shown, show ((14210195330942416807 : Nat) : Int) = 14210195330942416807 from rfl, show ((13079631299086425565 : Nat) : Int) = 13079631299086425565 from rfl] at C3
  have C4 := aside (fun (W : World) => less_any 0 0 1 2 W)
  rw [show IntKind.u64.wrap (0 - 1) = 18446744073709551615 from by kernel_rfl, show IntKind.u64.wrap (0 - 2) = 18446744073709551614 from by kernel_rfl] at C4
  have LL := aside L
  have s1 := sum_same 15 160
  have s2 := sum_same 18446744073709551615 18446744073709551614
  clear L hl
  go_enter Tryd.func9, Tryd.ntmps9
  go_wp2_with fail
  refine (C1.out _ LL.out).mono ?_
  rintro e w1 ⟨rfl, b1⟩
  have B1 := aside b1
  clear C1 b1
  go_wp2_with fail
  refine (C2.out _).mono ?_
  rintro e w2 ⟨rfl, b2⟩
  have r1 := blk_on (heap_alloc_new w1 _) b2
  have B2 := aside (bthen (bthen B1.out (bnew w1 _)) b2)
  clear C2 b2 B1
  generalize w1.heap.size = i1 at *
  have r1' := pair (blk_on r1 (bnew w2 (.cells #[.int .u64 15, .int .u64 160] 27)))
  obtain ⟨p0, p1, -, -⟩ := r1'
  clear r1
  go_wp2_with fail
  refine (C3.out _).mono ?_
  rintro e w3 ⟨rfl, b3⟩
  have r2 := pair (blk_on (heap_alloc_new w2 (.cells #[.int .u64 15, .int .u64 160] 27)) b3)
  have B3 := aside (bthen (bthen B2.out (bnew w2 _)) b3)
  clear C3 b3 B2 p0 p1
  generalize w2.heap.size = i2 at *
  obtain ⟨q0, q1, -, -⟩ := r2
  go_wp2_with fail
  refine (C4.out _).mono ?_
  rintro e w4 ⟨rfl, b4⟩
  have B4 := aside (bthen B3.out b4)
  clear C4 b4 q0 q1 B3
  go_wp2
  go_ret
  exact ⟨rfl, B4.out⟩

end Go.Proofs.YtlieljnaecbmdaaDoor

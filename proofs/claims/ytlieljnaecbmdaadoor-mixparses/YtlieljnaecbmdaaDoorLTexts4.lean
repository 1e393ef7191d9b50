/-
  The law MixTexts, walked.
-/
import Derived.Test.YtlieljnaecbmdaaDoorMShown
import Derived.Test.YtlieljnaecbmdaaDoorMTxtRef
namespace Go.Proofs.YtlieljnaecbmdaaDoor
open Go.RowKit
set_option linter.unusedVariables false

theorem valB_word (u : Nat) (hu : u < 18446744073709551616) : valB (wordB u) = u := by
  simp only [wordB, wordFrom, valB, List.foldl_cons, List.foldl_nil, UInt8.toNat_ofNat', Nat.reduceSub, Nat.reduceMul, Nat.reducePow, Nat.reduceAdd]
  omega

/-- There and back. -/
theorem parseV_txt (a b : Nat) (ha : a < 18446744073709551616) (hb : b < 18446744073709551616) : parseV (txtL a b) = .tuple #[.agg #[.int .u64 (a : Int), .int .u64 (b : Int)], .int .i64 0] := by
  rw [parseV_some (txtL_length a b) (Hx.unhex_hex _)]
  have e1 : (wordB a ++ wordB b).take 8 = wordB a := by rw [List.take_append_of_le_length (by rw [wordB_length]; decide), List.take_of_length_le (by rw [wordB_length]; decide)]
  have e2 : (wordB a ++ wordB b).drop 8 = wordB b := by rw [List.drop_append_of_le_length (by rw [wordB_length]; decide), List.drop_of_length_le (by rw [wordB_length]; decide), List.nil_append]
  rw [e1, e2, List.take_of_length_le (by rw [wordB_length]; decide), valB_word a ha, valB_word b hb]

set_option maxHeartbeats 1600000 in
set_option maxRecDepth 100000 in
theorem ltexts_walk (a b : Nat) (w : World) (L : Lanes w) (ha : a < 18446744073709551616) (hb : b < 18446744073709551616) :
    Calls Tryd.prog 7 #[.agg #[.int .u64 (a : Int), .int .u64 (b : Int)]] w fun e w' => e = .returned (.bool true) ∧ Below w.heap.size w w' := by
  have C1 := aside (fun (W : World) => print_any a b W ha hb)
  have C2 := aside (fun (W : World) => printRef_any a b W ha hb)
  have C3 := aside (fun (W : World) => parse_any ⟨(txtL a b).toArray⟩ W)
  have hl : (⟨(txtL a b).toArray⟩ : ByteArray).data.toList = txtL a b := rfl
  rw [hl, parseV_txt a b ha hb] at C3
  generalize (⟨(txtL a b).toArray⟩ : ByteArray) = t at *
  have sm := sum_same (a : Int) (b : Int)
  have LL := aside L
  clear L hl ha hb
  generalize (a : Int) = x at *
  generalize (b : Int) = y at *
  go_enter Tryd.func7, Tryd.ntmps7
  go_wp2_with fail
  refine (shown_any _ (LL.out.keep (bnew w _))).mono ?_
  rintro e w1 ⟨rfl, b1⟩
  have r1 := blk_on (heap_alloc_new w _) b1
  have B1 := aside (bthen (bnew w _) b1)
  obtain ⟨p0, p1, -, -⟩ := pair r1
  clear b1
  go_wp2_with fail
  refine (C1.out _).mono ?_
  rintro e w2 ⟨rfl, b2⟩
  have r2 := blk_on r1 b2
  have B2 := aside (bthen B1.out b2)
  clear b2 B1 C1 r1 p0 p1
  go_wp2_with fail
  refine (C3.out _).mono ?_
  rintro e w3 ⟨rfl, b3⟩
  have r3 := blk_on r2 b3
  have B3 := aside (bthen B2.out b3)
  clear b3 B2 C3 r2
  obtain ⟨p0, p1, -, -⟩ := pair (blk_on r3 (bnew w3 (.cells #[.int .u64 x, .int .u64 y] 27)))
  go_wp2_with fail
  refine (C2.out _).mono ?_
  rintro e w4 ⟨rfl, b4⟩
  obtain ⟨q0, q1, -, -⟩ := pair (blk_on (blk_on r3 (bnew w3 (.cells #[.int .u64 x, .int .u64 y] 27))) b4)
  obtain ⟨s0, s1, -, -⟩ := pair (blk_on (heap_alloc_new w3 (.cells #[.int .u64 x, .int .u64 y] 27)) b4)
  have B4 := aside (bthen (bthen B3.out (bnew w3 _)) b4)
  clear b4 B3 C2 r3 p0 p1
  go_wp2
  go_ret
  exact ⟨rfl, B4.out⟩

end Go.Proofs.YtlieljnaecbmdaaDoor

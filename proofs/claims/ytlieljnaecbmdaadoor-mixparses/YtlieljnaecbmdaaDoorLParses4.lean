/-
  The law MixParses, walked.
-/
import Derived.Test.YtlieljnaecbmdaaDoorLTexts4
namespace Go.Proofs.YtlieljnaecbmdaaDoor
open Go.RowKit
set_option linter.unusedVariables false

theorem wordB_valB (l : List UInt8) (h : l.length = 8) : wordB (valB l) = l := by
  match l, h with
  | [c0, c1, c2, c3, c4, c5, c6, c7], _ =>
    have h0 := c0.toNat_lt
    have h1 := c1.toNat_lt
    have h2 := c2.toNat_lt
    have h3 := c3.toNat_lt
    have h4 := c4.toNat_lt
    have h5 := c5.toNat_lt
    have h6 := c6.toNat_lt
    have h7 := c7.toNat_lt
    have key : ∀ (n : Nat) (c : UInt8), n % 256 = c.toNat → UInt8.ofNat n = c := by
      intro n c hn
      apply UInt8.toNat_inj.1
      rw [UInt8.toNat_ofNat']
      exact hn
    simp only [wordB, wordFrom, valB, List.foldl_cons, List.foldl_nil, Nat.reduceSub, Nat.reduceMul, Nat.reducePow, Nat.reduceAdd, List.cons.injEq, and_true]
    refine ⟨key _ _ ?_, key _ _ ?_, key _ _ ?_, key _ _ ?_, key _ _ ?_, key _ _ ?_, key _ _ ?_, key _ _ ?_⟩ <;> omega

/-- What Parse takes is printed so. -/
theorem txtL_parse {l r : List UInt8} (h : l.length = 32) (hr : Hx.unhex l = some r) : txtL (valB (r.take 8)) (valB ((r.drop 8).take 8)) = l := by
  have hrl := Hx.unhex_length _ _ _ (Nat.le_refl _) hr
  rw [txtL, wordB_valB _ (by rw [List.length_take]; omega), wordB_valB _ (by rw [List.length_take, List.length_drop]; omega),
    List.take_of_length_le (l := r.drop 8) (by rw [List.length_drop]; omega), List.take_append_drop]
  exact Hx.hex_unhex _ _ _ (Nat.le_refl _) hr

/-- The two ways of Parse. -/
theorem parseV_ways (l : List UInt8) : (∃ a b : Nat, parseV l = .tuple #[.agg #[.int .u64 (a : Int), .int .u64 (b : Int)], .int .i64 0] ∧ a < 18446744073709551616 ∧ b < 18446744073709551616 ∧ txtL a b = l) ∨
    parseV l = .tuple #[.agg #[.int .u64 0, .int .u64 0], .int .i64 23] := by
  by_cases h : l.length = 32
  · cases hu : Hx.unhex l with
    | none => exact .inr (parseV_none hu)
    | some r =>
      refine .inl ⟨_, _, parseV_some h hu, ?_, ?_, txtL_parse h hu⟩
      · have h1 := valB_lt (r.take 8)
        have h2 : 256 ^ (r.take 8).length ≤ 256 ^ 8 := Nat.pow_le_pow_right (by decide) (by simp; omega)
        omega
      · have h1 := valB_lt ((r.drop 8).take 8)
        have h2 : 256 ^ ((r.drop 8).take 8).length ≤ 256 ^ 8 := Nat.pow_le_pow_right (by decide) (by simp; omega)
        omega
  · exact .inr (parseV_len h)

set_option maxHeartbeats 1600000 in
set_option maxRecDepth 100000 in
theorem lparses_walk (s : ByteArray) (w : World) (L : Lanes w) :
    Calls Tryd.prog 8 #[.string s] w fun e w' => e = .returned (.bool true) ∧ Below w.heap.size w w' := by
  have C1 := aside (fun (W : World) => parse_any s W)
  have C2 := aside (fun (W : World) => parseRef_any s W)
  have LL := aside L
  clear L
  rcases parseV_ways s.data.toList with ⟨a, b, hp, ha, hb, ht⟩ | hp
  · rw [hp] at C1 C2
    have C3 := aside (fun (W : World) => print_any a b W ha hb)
    rw [ht, show (⟨s.data.toList.toArray⟩ : ByteArray) = s from rfl] at C3
    have sm := sum_same (a : Int) (b : Int)
    clear ha hb ht hp
    generalize (a : Int) = x at *
    generalize (b : Int) = y at *
    go_enter Tryd.func8, Tryd.ntmps8
    go_wp2_with fail
    refine (shown_any _ LL.out).mono ?_
    rintro e w1 ⟨rfl, b1⟩
    have B1 := aside b1
    clear b1
    go_wp2_with fail
    refine (C1.out _).mono ?_
    rintro e w2 ⟨rfl, b2⟩
    have B2 := aside (bthen (bthen B1.out b2) (bnew w2 (.cells #[.int .u64 x, .int .u64 y] 27)))
    have r2 := heap_alloc_new w2 (.cells #[.int .u64 x, .int .u64 y] 27)
    clear b2 B1 C1
    go_wp2_with fail
    generalize w2.alloc (.cells #[.int .u64 x, .int .u64 y] 27) = V at *
    generalize w2.heap.size = i2 at *
    refine (C2.out _).mono ?_
    rintro e w3 ⟨rfl, b3⟩
    have B3 := aside (bthen (bthen B2.out b3) (bnew w3 (.cells #[.int .u64 x, .int .u64 y] 27)))
    have r3 := blk_on (blk_on r2 b3) (bnew w3 (.cells #[.int .u64 x, .int .u64 y] 27))
    have r4 := heap_alloc_new w3 (.cells #[.int .u64 x, .int .u64 y] 27)
    obtain ⟨p0, p1, -, -⟩ := pair r3
    obtain ⟨q0, q1, -, -⟩ := pair r4
    clear b3 B2 C2 r2 r3 r4
    go_wp2_with fail
    refine (C3.out _).mono ?_
    rintro e w4 ⟨rfl, b4⟩
    have B4 := aside (bthen B3.out b4)
    clear b4 B3 C3 p0 p1 q0 q1
    go_wp2
    go_ret
    exact ⟨rfl, B4.out⟩
  · rw [hp] at C1 C2
    have sm := sum_same 0 0
    clear hp
    go_enter Tryd.func8, Tryd.ntmps8
    go_wp2_with fail
    refine (shown_any _ LL.out).mono ?_
    rintro e w1 ⟨rfl, b1⟩
    have B1 := aside b1
    clear b1
    go_wp2_with fail
    refine (C1.out _).mono ?_
    rintro e w2 ⟨rfl, b2⟩
    have B2 := aside (bthen (bthen B1.out b2) (bnew w2 (.cells #[.int .u64 0, .int .u64 0] 27)))
    have r2 := heap_alloc_new w2 (.cells #[.int .u64 0, .int .u64 0] 27)
    clear b2 B1 C1
    go_wp2_with fail
    generalize w2.alloc (.cells #[.int .u64 0, .int .u64 0] 27) = V at *
    generalize w2.heap.size = i2 at *
    refine (C2.out _).mono ?_
    rintro e w3 ⟨rfl, b3⟩
    have B3 := aside (bthen (bthen B2.out b3) (bnew w3 (.cells #[.int .u64 0, .int .u64 0] 27)))
    have r3 := blk_on (blk_on r2 b3) (bnew w3 (.cells #[.int .u64 0, .int .u64 0] 27))
    have r4 := heap_alloc_new w3 (.cells #[.int .u64 0, .int .u64 0] 27)
    obtain ⟨p0, p1, -, -⟩ := pair r3
    obtain ⟨q0, q1, -, -⟩ := pair r4
    clear b3 B2 C2 r2 r3 r4
    go_wp2
    go_ret
    exact ⟨rfl, B3.out⟩

end Go.Proofs.YtlieljnaecbmdaaDoor

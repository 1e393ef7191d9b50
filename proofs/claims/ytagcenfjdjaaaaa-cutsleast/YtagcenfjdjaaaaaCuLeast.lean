/-
  Least of the code and of the document: how many keys are left at most.
-/
import Derived.Test.YtagcenfjdjaaaaaCuDep
import Derived.Test.YtagcenfjdjaaaaaCuStart
namespace Go.Proofs.Ytagcenfjdjaaaaa
open Go.RowKit
set_option linter.unusedVariables false

theorem quo_cdiv {x b : Nat} (hb : 0 < b) : ((x : Int) + (b : Int) - 1).tdiv (b : Int) = ((cdiv x b : Nat) : Int) := by
  rw [Int.tdiv_eq_ediv_of_nonneg (by omega)]
  unfold cdiv
  rw [Int.natCast_ediv, show (((x + b - 1 : Nat)) : Int) = (x : Int) + (b : Int) - 1 from by omega]

set_option maxHeartbeats 1600000 in
theorem least_bad (n b s : Int) (w : World) (h : ¬ (0 ≤ n ∧ n ≤ 256 ∧ 2 ≤ b ∧ b ≤ 16 ∧ 0 ≤ s ∧ s ≤ 63)) : Calls Try.prog 23 #[.int .i64 n, .int .i64 b, .int .i64 s] w fun e w' => e = .returned (.tuple #[.int .i64 0, .int .i64 1]) ∧ w' = w := by
  by_cases h1 : n < 0
  ·
    go_enter Try.func23, Try.ntmps23
    go_wp2
    exact bodyPost_ret (v := .tuple #[.int .i64 0, .int .i64 1]) (by simp [results, Try.results23, go_sem]) rfl ⟨rfl, rfl⟩
  · by_cases h2 : 256 < n
    ·
      go_enter Try.func23, Try.ntmps23
      go_wp2
      exact bodyPost_ret (v := .tuple #[.int .i64 0, .int .i64 1]) (by simp [results, Try.results23, go_sem]) rfl ⟨rfl, rfl⟩
    · by_cases h3 : 2 ≤ b ∧ b ≤ 16
      · have hm : (decide (2 ≤ b) && decide (b ≤ 16)) = true := by simp; omega
        by_cases h4 : s < 0
        · clear h3
          go_enter Try.func23, Try.ntmps23
          go_wp2_with fail
          refine (may_any b _).mono ?_
          rintro e w1 ⟨rfl, rfl⟩
          rw [hm]
          go_wp2
          exact bodyPost_ret (v := .tuple #[.int .i64 0, .int .i64 1]) (by simp [results, Try.results23, go_sem]) rfl ⟨rfl, rfl⟩
        · have h5 : 63 < s := by omega
          clear h3
          go_enter Try.func23, Try.ntmps23
          go_wp2_with fail
          refine (may_any b _).mono ?_
          rintro e w1 ⟨rfl, rfl⟩
          rw [hm]
          go_wp2
          exact bodyPost_ret (v := .tuple #[.int .i64 0, .int .i64 1]) (by simp [results, Try.results23, go_sem]) rfl ⟨rfl, rfl⟩
      · have hm : (decide (2 ≤ b) && decide (b ≤ 16)) = false := by simp; omega
        clear h3
        go_enter Try.func23, Try.ntmps23
        go_wp2_with fail
        refine (may_any b _).mono ?_
        rintro e w1 ⟨rfl, rfl⟩
        rw [hm]
        go_wp2
        exact bodyPost_ret (v := .tuple #[.int .i64 0, .int .i64 1]) (by simp [results, Try.results23, go_sem]) rfl ⟨rfl, rfl⟩

set_option maxHeartbeats 1600000 in
theorem rleast_bad (n b s : Int) (w : World) (h : ¬ (0 ≤ n ∧ n ≤ 256 ∧ 2 ≤ b ∧ b ≤ 16 ∧ 0 ≤ s ∧ s ≤ 63)) : Calls Try.prog 24 #[.int .i64 n, .int .i64 b, .int .i64 s] w fun e w' => e = .returned (.tuple #[.int .i64 0, .int .i64 1]) ∧ w' = w := by
  by_cases h1 : n < 0
  ·
    go_enter Try.func24, Try.ntmps24
    go_wp2
    exact bodyPost_ret (v := .tuple #[.int .i64 0, .int .i64 1]) (by simp [results, Try.results24, go_sem]) rfl ⟨rfl, rfl⟩
  · by_cases h2 : 256 < n
    ·
      go_enter Try.func24, Try.ntmps24
      go_wp2
      exact bodyPost_ret (v := .tuple #[.int .i64 0, .int .i64 1]) (by simp [results, Try.results24, go_sem]) rfl ⟨rfl, rfl⟩
    · by_cases h3 : 2 ≤ b ∧ b ≤ 16
      · have hm : (decide (2 ≤ b) && decide (b ≤ 16)) = true := by simp; omega
        by_cases h4 : s < 0
        · clear h3
          go_enter Try.func24, Try.ntmps24
          go_wp2_with fail
          refine (right_any b _).mono ?_
          rintro e w1 ⟨rfl, rfl⟩
          rw [hm]
          go_wp2
          exact bodyPost_ret (v := .tuple #[.int .i64 0, .int .i64 1]) (by simp [results, Try.results24, go_sem]) rfl ⟨rfl, rfl⟩
        · have h5 : 63 < s := by omega
          clear h3
          go_enter Try.func24, Try.ntmps24
          go_wp2_with fail
          refine (right_any b _).mono ?_
          rintro e w1 ⟨rfl, rfl⟩
          rw [hm]
          go_wp2
          exact bodyPost_ret (v := .tuple #[.int .i64 0, .int .i64 1]) (by simp [results, Try.results24, go_sem]) rfl ⟨rfl, rfl⟩
      · have hm : (decide (2 ≤ b) && decide (b ≤ 16)) = false := by simp; omega
        clear h3
        go_enter Try.func24, Try.ntmps24
        go_wp2_with fail
        refine (right_any b _).mono ?_
        rintro e w1 ⟨rfl, rfl⟩
        rw [hm]
        go_wp2
        exact bodyPost_ret (v := .tuple #[.int .i64 0, .int .i64 1]) (by simp [results, Try.results24, go_sem]) rfl ⟨rfl, rfl⟩

set_option maxHeartbeats 3200000 in
theorem least_any (n b s : Nat) (w : World) (hn : n ≤ 256) (hb : 2 ≤ b) (hb2 : b ≤ 16) (hs : s ≤ 63) : Calls Try.prog 23 #[.int .i64 (n : Int), .int .i64 (b : Int), .int .i64 (s : Int)] w fun e w' => e = .returned (.tuple #[.int .i64 (lst b s n : Int), .int .i64 0]) ∧ w' = w := by
  have g1 : ¬ ((n : Int) < 0) := by omega
  have g2 : ¬ (256 < (n : Int)) := by omega
  have g3 : ¬ ((s : Int) < 0) := by omega
  have g4 : ¬ (63 < (s : Int)) := by omega
  have hm : (decide (2 ≤ (b : Int)) && decide ((b : Int) ≤ 16)) = true := by simp; omega
  go_enter Try.func23, Try.ntmps23
  go_wp2_with fail
  refine (may_any (b : Int) _).mono ?_
  rintro e w1 ⟨rfl, rfl⟩
  rw [hm]
  go_wp2
  have hb0 : ¬ (b = 0) := by omega
  go_loopw [0, 28] (fun x i X => ∃ k : Nat, k ≤ s ∧ x = .int .i64 (lst b k n : Int) ∧ i = .int .i64 (k : Int) ∧ X = w1) (fun _ i _ => s - (intOf i).toNat)
  case atStart => exact ⟨0, Nat.zero_le _, rfl, rfl, rfl⟩
  case round =>
    obtain ⟨k, hk, rfl, rfl, rfl⟩ := hrel
    have hle := lst_le (b := b) (by omega) n k
    by_cases hlt : (k : Int) < (s : Int)
    · have hqw : IntKind.i64.wrap ((k : Int) + 1) = (k : Int) + 1 := by rw [IntKind.wrap_i64]; omega
      have HS := aside (show lst b (k + 1) n = cdiv (lst b k n) b from rfl)
      have hcl := cdiv_le (n := lst b k n) (b := b) (by omega)
      have hq := quo_cdiv (x := lst b k n) (b := b) (by omega)
      generalize lst b k n = x at *
      have w1 : IntKind.i64.wrap ((x : Int) + (b : Int)) = (x : Int) + (b : Int) := by rw [IntKind.wrap_i64]; omega
      have w2 : IntKind.i64.wrap ((x : Int) + (b : Int) - 1) = (x : Int) + (b : Int) - 1 := by rw [IntKind.wrap_i64]; omega
      generalize cdiv x b = y at *
      have w3 : IntKind.i64.wrap (y : Int) = (y : Int) := by rw [IntKind.wrap_i64]; omega
      clear hle hcl
      go_wp2
      go_roundw
      case rel => exact ⟨k + 1, by omega, by rw [HS.out], by go_num, by trivial⟩
      case measure => simp [intOf]; omega
    · obtain rfl : s = k := by omega
      go_wp2
      exact bodyPost_ret (v := .tuple #[.int .i64 (lst b s n : Int), .int .i64 0]) (by simp [results, Try.results23, go_sem]) rfl ⟨rfl, rfl⟩

set_option maxHeartbeats 3200000 in
theorem rleast_any (n b s : Nat) (w : World) (hn : n ≤ 256) (hb : 2 ≤ b) (hb2 : b ≤ 16) (hs : s ≤ 63) : Calls Try.prog 24 #[.int .i64 (n : Int), .int .i64 (b : Int), .int .i64 (s : Int)] w fun e w' => e = .returned (.tuple #[.int .i64 (lst b s n : Int), .int .i64 0]) ∧ w' = w := by
  have g1 : ¬ ((n : Int) < 0) := by omega
  have g2 : ¬ (256 < (n : Int)) := by omega
  have g3 : ¬ ((s : Int) < 0) := by omega
  have g4 : ¬ (63 < (s : Int)) := by omega
  have hm : (decide (2 ≤ (b : Int)) && decide ((b : Int) ≤ 16)) = true := by simp; omega
  go_enter Try.func24, Try.ntmps24
  go_wp2_with fail
  refine (right_any (b : Int) _).mono ?_
  rintro e w1 ⟨rfl, rfl⟩
  rw [hm]
  go_wp2
  go_loopw [8, 9] (fun p i X => ∃ k : Nat, k ≤ s ∧ p = .int .i64 ((b ^ k : Nat) : Int) ∧ i = .int .i64 (k : Int) ∧ b ^ k ≤ 4096 ∧ X = w1) (fun _ i _ => s - (intOf i).toNat)
  case atStart => exact ⟨0, Nat.zero_le _, rfl, rfl, by rw [Nat.pow_zero]; omega, rfl⟩
  case round =>
    obtain ⟨k, hk, rfl, rfl, hpk, rfl⟩ := hrel
    have hpos : 0 < b ^ k := Nat.pow_pos (by omega)
    have HF := aside (fun h => lst_far (b := b) (by omega) (n := n) (j := k) (s := s) hk h)
    by_cases hlt : (k : Int) < (s : Int)
    · by_cases hlp : ((b ^ k : Nat) : Int) ≤ 256
      · have hqw : IntKind.i64.wrap ((k : Int) + 1) = (k : Int) + 1 := by rw [IntKind.wrap_i64]; omega
        have HP := aside (show ((b ^ k : Nat) : Int) * (b : Int) = ((b ^ (k + 1) : Nat) : Int) from by rw [Nat.pow_succ]; exact (Int.natCast_mul _ _).symm)
        have h3 : ((b ^ k : Nat) : Int) * (b : Int) ≤ 256 * 16 := Int.mul_le_mul (by omega) (by omega) (by omega) (by omega)
        have hpw : IntKind.i64.wrap (((b ^ k : Nat) : Int) * (b : Int)) = ((b ^ k : Nat) : Int) * (b : Int) := by
          have h4 : 0 ≤ ((b ^ k : Nat) : Int) * (b : Int) := Int.mul_nonneg (by omega) (by omega)
          rw [IntKind.wrap_i64]; omega
        have H3 := aside (show b ^ (k + 1) ≤ 4096 from by have := HP.out; omega)
        clear h3 hpk hpos
        generalize ((b ^ k : Nat) : Int) = P at *
        go_wp2
        go_roundw
        case rel => exact ⟨k + 1, by omega, by rw [HP.out], by go_num, H3.out, by trivial⟩
        case measure => simp [intOf]; omega
      · have HR := aside (HF.out (.inr (by omega)))
        have hq := quo_cdiv (x := n) (b := b ^ k) hpos
        have hcl := cdiv_le (n := n) (b := b ^ k) hpos
        rw [HR.out] at hq hcl
        have hp0 : ¬ (b ^ k = 0) := by omega
        generalize b ^ k = P at *
        obtain ⟨y, hy⟩ : ∃ y, lst b s n = y := ⟨_, rfl⟩
        rw [hy] at hq hcl
        have HY := aside hy
        clear hy HR
        have w1 : IntKind.i64.wrap ((n : Int) + (P : Int)) = (n : Int) + (P : Int) := by rw [IntKind.wrap_i64]; omega
        have w2 : IntKind.i64.wrap ((n : Int) + (P : Int) - 1) = (n : Int) + (P : Int) - 1 := by rw [IntKind.wrap_i64]; omega
        have w3 : IntKind.i64.wrap (y : Int) = (y : Int) := by rw [IntKind.wrap_i64]; omega
        clear hpk hpos hcl
        go_wp2
        exact bodyPost_ret (v := .tuple #[.int .i64 (y : Int), .int .i64 0]) (by simp [results, Try.results24, go_sem]) rfl ⟨by rw [HY.out], rfl⟩
    · have HR := aside (HF.out (.inl (by omega)))
      have hq := quo_cdiv (x := n) (b := b ^ k) hpos
      have hcl := cdiv_le (n := n) (b := b ^ k) hpos
      rw [HR.out] at hq hcl
      have hp0 : ¬ (b ^ k = 0) := by omega
      generalize b ^ k = P at *
      obtain ⟨y, hy⟩ : ∃ y, lst b s n = y := ⟨_, rfl⟩
      rw [hy] at hq hcl
      have HY := aside hy
      clear hy HR
      have w1 : IntKind.i64.wrap ((n : Int) + (P : Int)) = (n : Int) + (P : Int) := by rw [IntKind.wrap_i64]; omega
      have w2 : IntKind.i64.wrap ((n : Int) + (P : Int) - 1) = (n : Int) + (P : Int) - 1 := by rw [IntKind.wrap_i64]; omega
      have w3 : IntKind.i64.wrap (y : Int) = (y : Int) := by rw [IntKind.wrap_i64]; omega
      clear hpk hpos hcl
      go_wp2
      exact bodyPost_ret (v := .tuple #[.int .i64 (y : Int), .int .i64 0]) (by simp [results, Try.results24, go_sem]) rfl ⟨by rw [HY.out], rfl⟩

end Go.Proofs.Ytagcenfjdjaaaaa

/-
  Turns and Moves, by the code and by the document.
-/
import Derived.Test.YtagcenfjdjaaaabCuDep
namespace Go.Proofs.Ytagcenfjdjaaaab
open Go.RowKit
set_option linter.unusedVariables false

set_option maxHeartbeats 1600000 in
theorem turns_any (b : Int) (w : World) : Calls Try.prog 6 #[.int .i64 b] w fun e w' => e = .returned (.tuple #[.int .i64 (if 2 ≤ b ∧ b ≤ 16 then 2 * (dep b.toNat : Int) + 4 else 0), .int .i64 (if 2 ≤ b ∧ b ≤ 16 then 0 else 1)]) ∧ w' = w := by
  have hd := depth_any b w
  have h8 := dep_le b.toNat
  by_cases hb : 2 ≤ b ∧ b ≤ 16
  · simp only [if_pos hb] at hd ⊢
    generalize dep b.toNat = d at *
    clear hb
    have h1 : IntKind.i64.wrap (2 * (d : Int)) = 2 * (d : Int) := by rw [IntKind.wrap_i64]; omega
    have h2 : IntKind.i64.wrap (2 * (d : Int) + 4) = 2 * (d : Int) + 4 := by rw [IntKind.wrap_i64]; omega
    have HD := aside hd
    clear hd
    go_enter Try.func6, Try.ntmps6
    go_wp2_with fail
    refine HD.out.mono ?_
    rintro e w1 ⟨rfl, rfl⟩
    go_wp2
    exact bodyPost_ret (v := .tuple #[.int .i64 (2 * (d : Int) + 4), .int .i64 0]) (by simp [results, Try.results6, go_sem]) rfl ⟨rfl, rfl⟩
  · simp only [if_neg hb] at hd ⊢
    clear hb
    have HD := aside hd
    clear hd
    go_enter Try.func6, Try.ntmps6
    go_wp2_with fail
    refine HD.out.mono ?_
    rintro e w1 ⟨rfl, rfl⟩
    go_wp2
    exact bodyPost_ret (v := .tuple #[.int .i64 0, .int .i64 1]) (by simp [results, Try.results6, go_sem]) rfl ⟨rfl, rfl⟩

set_option maxHeartbeats 1600000 in
theorem rturns_any (b : Int) (w : World) : Calls Try.prog 7 #[.int .i64 b] w fun e w' => e = .returned (.tuple #[.int .i64 (if 2 ≤ b ∧ b ≤ 16 then 2 * (dep b.toNat : Int) + 4 else 0), .int .i64 (if 2 ≤ b ∧ b ≤ 16 then 0 else 1)]) ∧ w' = w := by
  have hd := rdepth_any b w
  have h8 := dep_le b.toNat
  by_cases hb : 2 ≤ b ∧ b ≤ 16
  · simp only [if_pos hb] at hd ⊢
    generalize dep b.toNat = d at *
    clear hb
    have h1 : IntKind.i64.wrap (2 * (d : Int)) = 2 * (d : Int) := by rw [IntKind.wrap_i64]; omega
    have h2 : IntKind.i64.wrap (2 * (d : Int) + 4) = 2 * (d : Int) + 4 := by rw [IntKind.wrap_i64]; omega
    have HD := aside hd
    clear hd
    go_enter Try.func7, Try.ntmps7
    go_wp2_with fail
    refine HD.out.mono ?_
    rintro e w1 ⟨rfl, rfl⟩
    go_wp2
    exact bodyPost_ret (v := .tuple #[.int .i64 (2 * (d : Int) + 4), .int .i64 0]) (by simp [results, Try.results7, go_sem]) rfl ⟨rfl, rfl⟩
  · simp only [if_neg hb] at hd ⊢
    clear hb
    have HD := aside hd
    clear hd
    go_enter Try.func7, Try.ntmps7
    go_wp2_with fail
    refine HD.out.mono ?_
    rintro e w1 ⟨rfl, rfl⟩
    go_wp2
    exact bodyPost_ret (v := .tuple #[.int .i64 0, .int .i64 1]) (by simp [results, Try.results7, go_sem]) rfl ⟨rfl, rfl⟩

set_option maxHeartbeats 1600000 in
theorem moves_any (d l : Int) (w : World) : Calls Try.prog 8 #[.int .i64 d, .int .i64 l] w fun e w' => e = .returned (.tuple #[.int .i64 (if 0 ≤ d ∧ d ≤ 512 ∧ 1 ≤ l ∧ l ≤ 32 then d * (l + 1) else 0), .int .i64 (if 0 ≤ d ∧ d ≤ 512 ∧ 1 ≤ l ∧ l ≤ 32 then 0 else 1)]) ∧ w' = w := by
  by_cases h1 : d < 0
  ·
    rw [if_neg (by omega), if_neg (by omega)]
    go_enter Try.func8, Try.ntmps8
    go_wp2
    exact bodyPost_ret (v := .tuple #[.int .i64 0, .int .i64 1]) (by simp [results, Try.results8, go_sem]) rfl ⟨rfl, rfl⟩
  · by_cases h2 : 512 < d
    ·
      rw [if_neg (by omega), if_neg (by omega)]
      go_enter Try.func8, Try.ntmps8
      go_wp2
      exact bodyPost_ret (v := .tuple #[.int .i64 0, .int .i64 1]) (by simp [results, Try.results8, go_sem]) rfl ⟨rfl, rfl⟩
    · by_cases h3 : l < 1
      ·
        rw [if_neg (by omega), if_neg (by omega)]
        go_enter Try.func8, Try.ntmps8
        go_wp2
        exact bodyPost_ret (v := .tuple #[.int .i64 0, .int .i64 1]) (by simp [results, Try.results8, go_sem]) rfl ⟨rfl, rfl⟩
      · by_cases h4 : 32 < l
        ·
          rw [if_neg (by omega), if_neg (by omega)]
          go_enter Try.func8, Try.ntmps8
          go_wp2
          exact bodyPost_ret (v := .tuple #[.int .i64 0, .int .i64 1]) (by simp [results, Try.results8, go_sem]) rfl ⟨rfl, rfl⟩
        · rw [if_pos (by omega), if_pos (by omega)]
          have h5 : IntKind.i64.wrap (l + 1) = l + 1 := by rw [IntKind.wrap_i64]; omega
          have h6 : IntKind.i64.wrap (d * (l + 1)) = d * (l + 1) := by
            have h7 : d * (l + 1) ≤ 512 * 33 := Int.mul_le_mul (by omega) (by omega) (by omega) (by omega)
            have h8 : 0 ≤ d * (l + 1) := Int.mul_nonneg (by omega) (by omega)
            rw [IntKind.wrap_i64]; omega
          go_enter Try.func8, Try.ntmps8
          go_wp2
          exact bodyPost_ret (v := .tuple #[.int .i64 (d * (l + 1)), .int .i64 0]) (by simp [results, Try.results8, go_sem]) rfl ⟨rfl, rfl⟩

set_option maxHeartbeats 1600000 in
theorem rmoves_any (d l : Int) (w : World) : Calls Try.prog 9 #[.int .i64 d, .int .i64 l] w fun e w' => e = .returned (.tuple #[.int .i64 (if 0 ≤ d ∧ d ≤ 512 ∧ 1 ≤ l ∧ l ≤ 32 then d * (l + 1) else 0), .int .i64 (if 0 ≤ d ∧ d ≤ 512 ∧ 1 ≤ l ∧ l ≤ 32 then 0 else 1)]) ∧ w' = w := by
  by_cases h1 : d < 0
  ·
    rw [if_neg (by omega), if_neg (by omega)]
    go_enter Try.func9, Try.ntmps9
    go_wp2
    exact bodyPost_ret (v := .tuple #[.int .i64 0, .int .i64 1]) (by simp [results, Try.results9, go_sem]) rfl ⟨rfl, rfl⟩
  · by_cases h2 : 512 < d
    ·
      rw [if_neg (by omega), if_neg (by omega)]
      go_enter Try.func9, Try.ntmps9
      go_wp2
      exact bodyPost_ret (v := .tuple #[.int .i64 0, .int .i64 1]) (by simp [results, Try.results9, go_sem]) rfl ⟨rfl, rfl⟩
    · by_cases h3 : l < 1
      ·
        rw [if_neg (by omega), if_neg (by omega)]
        go_enter Try.func9, Try.ntmps9
        go_wp2
        exact bodyPost_ret (v := .tuple #[.int .i64 0, .int .i64 1]) (by simp [results, Try.results9, go_sem]) rfl ⟨rfl, rfl⟩
      · by_cases h4 : 32 < l
        ·
          rw [if_neg (by omega), if_neg (by omega)]
          go_enter Try.func9, Try.ntmps9
          go_wp2
          exact bodyPost_ret (v := .tuple #[.int .i64 0, .int .i64 1]) (by simp [results, Try.results9, go_sem]) rfl ⟨rfl, rfl⟩
        · rw [if_pos (by omega), if_pos (by omega)]
          have h5 : IntKind.i64.wrap (l + 1) = l + 1 := by rw [IntKind.wrap_i64]; omega
          have h6 : IntKind.i64.wrap (d * (l + 1)) = d * (l + 1) := by
            have h7 : d * (l + 1) ≤ 512 * 33 := Int.mul_le_mul (by omega) (by omega) (by omega) (by omega)
            have h8 : 0 ≤ d * (l + 1) := Int.mul_nonneg (by omega) (by omega)
            rw [IntKind.wrap_i64]; omega
          go_enter Try.func9, Try.ntmps9
          go_wp2
          exact bodyPost_ret (v := .tuple #[.int .i64 (d * (l + 1)), .int .i64 0]) (by simp [results, Try.results9, go_sem]) rfl ⟨rfl, rfl⟩

end Go.Proofs.Ytagcenfjdjaaaab

/-
  How deep splits go, by the code and by the document.
-/
import Derived.Test.YtagcenfjdjaaaaaCuPlain
namespace Go.Proofs.Ytagcenfjdjaaaaa
open Go.RowKit
set_option linter.unusedVariables false

set_option maxHeartbeats 800000 in
theorem may_any (b : Int) (w : World) : Calls Try.prog 40 #[.int .i64 b] w fun e w' => e = .returned (.bool (decide (2 ≤ b) && decide (b ≤ 16))) ∧ w' = w := by
  by_cases h1 : 2 ≤ b
  · by_cases h2 : b ≤ 16
    · go_enter Try.func40, Try.ntmps40
      go_wp2
      go_ret
      exact ⟨by simp; omega, rfl⟩
    · go_enter Try.func40, Try.ntmps40
      go_wp2
      go_ret
      exact ⟨by simp; omega, rfl⟩
  · go_enter Try.func40, Try.ntmps40
    go_wp2
    go_ret
    exact ⟨by simp; omega, rfl⟩

set_option maxHeartbeats 800000 in
theorem right_any (b : Int) (w : World) : Calls Try.prog 29 #[.int .i64 b] w fun e w' => e = .returned (.bool (decide (2 ≤ b) && decide (b ≤ 16))) ∧ w' = w := by
  by_cases h1 : 2 ≤ b
  · by_cases h2 : b ≤ 16
    · go_enter Try.func29, Try.ntmps29
      go_wp2
      go_ret
      exact ⟨by simp; omega, rfl⟩
    · go_enter Try.func29, Try.ntmps29
      go_wp2
      go_ret
      exact ⟨by simp; omega, rfl⟩
  · go_enter Try.func29, Try.ntmps29
    go_wp2
    go_ret
    exact ⟨by simp; omega, rfl⟩

set_option maxHeartbeats 1600000 in
theorem depth_any (b : Int) (w : World) : Calls Try.prog 25 #[.int .i64 b] w fun e w' => e = .returned (.tuple #[.int .i64 (if 2 ≤ b ∧ b ≤ 16 then (dep b.toNat : Int) else 0), .int .i64 (if 2 ≤ b ∧ b ≤ 16 then 0 else 1)]) ∧ w' = w := by
  by_cases hb : 2 ≤ b ∧ b ≤ 16
  · obtain ⟨n, rfl⟩ : ∃ n : Nat, b = (n : Int) := ⟨b.toNat, by omega⟩
    have hm : (decide (2 ≤ (n : Int)) && decide ((n : Int) ≤ 16)) = true := by simp; omega
    have HB := aside (show 2 ≤ n ∧ n ≤ 16 from by omega)
    rw [if_pos hb, if_pos hb, Int.toNat_natCast]
    clear hb
    go_enter Try.func25, Try.ntmps25
    go_wp2_with fail
    refine (may_any (n : Int) _).mono ?_
    rintro e w1 ⟨rfl, rfl⟩
    rw [hm]
    go_wp2
    go_loopw [4, 5] (fun k p X => ∃ q : Nat, k = .int .i64 (q : Int) ∧ p = .int .i64 ((n ^ q : Nat) : Int) ∧ q ≤ dep n ∧ X = w1) (fun k _ _ => dep n - (intOf k).toNat)
    case atStart => exact ⟨0, rfl, rfl, Nat.zero_le _, rfl⟩
    case round =>
      obtain ⟨q, rfl, rfl, hq, rfl⟩ := hrel
      have HQ := aside hq
      have HL := aside (dep_lt (q := q) HB.out.1 HB.out.2)
      clear hq
      by_cases hlt : ((n ^ q : Nat) : Int) < 256
      · have h1 : q < dep n := HL.out.1 (by omega)
        have h8 := dep_le n
        have hqw : IntKind.i64.wrap ((q : Int) + 1) = (q : Int) + 1 := by rw [IntKind.wrap_i64]; omega
        have HP := aside (show ((n ^ q : Nat) : Int) * (n : Int) = ((n ^ (q + 1) : Nat) : Int) from by rw [Nat.pow_succ]; exact (Int.natCast_mul _ _).symm)
        have hpw : IntKind.i64.wrap (((n ^ q : Nat) : Int) * (n : Int)) = ((n ^ q : Nat) : Int) * (n : Int) := by
          have h2 := HB.out
          have h3 : ((n ^ q : Nat) : Int) * (n : Int) ≤ 256 * 16 := Int.mul_le_mul (by omega) (by omega) (by omega) (by omega)
          have h4 : 0 ≤ ((n ^ q : Nat) : Int) * (n : Int) := Int.mul_nonneg (by omega) (by omega)
          rw [IntKind.wrap_i64]; omega
        have H1 := aside h1
        clear h1 h8
        generalize ((n ^ q : Nat) : Int) = P at *
        go_wp2
        go_roundw
        case rel => exact ⟨q + 1, by go_num, by rw [HP.out], H1.out, by trivial⟩
        case measure => simp [intOf]; have := H1.out; omega
      · have h1 : q = dep n := by
          have h2 := HQ.out
          have h3 := HL.out.2
          omega
        subst h1
        generalize ((n ^ (dep n) : Nat) : Int) = P at *
        go_wp2
        exact bodyPost_ret (v := .tuple #[.int .i64 ((dep n : Nat) : Int), .int .i64 0]) (by simp [results, Try.results25, go_sem]) rfl ⟨rfl, rfl⟩
  · have hm : (decide (2 ≤ b) && decide (b ≤ 16)) = false := by simp; omega
    rw [if_neg hb, if_neg hb]
    clear hb
    go_enter Try.func25, Try.ntmps25
    go_wp2_with fail
    refine (may_any b _).mono ?_
    rintro e w1 ⟨rfl, rfl⟩
    rw [hm]
    go_wp2
    exact bodyPost_ret (v := .tuple #[.int .i64 0, .int .i64 1]) (by simp [results, Try.results25, go_sem]) rfl ⟨rfl, rfl⟩

set_option maxHeartbeats 1600000 in
theorem rdepth_any (b : Int) (w : World) : Calls Try.prog 11 #[.int .i64 b] w fun e w' => e = .returned (.tuple #[.int .i64 (if 2 ≤ b ∧ b ≤ 16 then (dep b.toNat : Int) else 0), .int .i64 (if 2 ≤ b ∧ b ≤ 16 then 0 else 1)]) ∧ w' = w := by
  by_cases hb : 2 ≤ b ∧ b ≤ 16
  · obtain ⟨n, rfl⟩ : ∃ n : Nat, b = (n : Int) := ⟨b.toNat, by omega⟩
    have hm : (decide (2 ≤ (n : Int)) && decide ((n : Int) ≤ 16)) = true := by simp; omega
    have HB := aside (show 2 ≤ n ∧ n ≤ 16 from by omega)
    rw [if_pos hb, if_pos hb, Int.toNat_natCast]
    clear hb
    go_enter Try.func11, Try.ntmps11
    go_wp2_with fail
    refine (right_any (n : Int) _).mono ?_
    rintro e w1 ⟨rfl, rfl⟩
    rw [hm]
    go_wp2
    go_loopw [4, 5] (fun k p X => ∃ q : Nat, k = .int .i64 (q : Int) ∧ p = .int .i64 ((n ^ q : Nat) : Int) ∧ q ≤ dep n ∧ X = w1) (fun k _ _ => dep n - (intOf k).toNat)
    case atStart => exact ⟨0, rfl, rfl, Nat.zero_le _, rfl⟩
    case round =>
      obtain ⟨q, rfl, rfl, hq, rfl⟩ := hrel
      have HQ := aside hq
      have HL := aside (dep_lt (q := q) HB.out.1 HB.out.2)
      clear hq
      by_cases hlt : ((n ^ q : Nat) : Int) < 256
      · have h1 : q < dep n := HL.out.1 (by omega)
        have h8 := dep_le n
        have hqw : IntKind.i64.wrap ((q : Int) + 1) = (q : Int) + 1 := by rw [IntKind.wrap_i64]; omega
        have HP := aside (show ((n ^ q : Nat) : Int) * (n : Int) = ((n ^ (q + 1) : Nat) : Int) from by rw [Nat.pow_succ]; exact (Int.natCast_mul _ _).symm)
        have hpw : IntKind.i64.wrap (((n ^ q : Nat) : Int) * (n : Int)) = ((n ^ q : Nat) : Int) * (n : Int) := by
          have h2 := HB.out
          have h3 : ((n ^ q : Nat) : Int) * (n : Int) ≤ 256 * 16 := Int.mul_le_mul (by omega) (by omega) (by omega) (by omega)
          have h4 : 0 ≤ ((n ^ q : Nat) : Int) * (n : Int) := Int.mul_nonneg (by omega) (by omega)
          rw [IntKind.wrap_i64]; omega
        have H1 := aside h1
        clear h1 h8
        generalize ((n ^ q : Nat) : Int) = P at *
        go_wp2
        go_roundw
        case rel => exact ⟨q + 1, by go_num, by rw [HP.out], H1.out, by trivial⟩
        case measure => simp [intOf]; have := H1.out; omega
      · have h1 : q = dep n := by
          have h2 := HQ.out
          have h3 := HL.out.2
          omega
        subst h1
        generalize ((n ^ (dep n) : Nat) : Int) = P at *
        go_wp2
        exact bodyPost_ret (v := .tuple #[.int .i64 ((dep n : Nat) : Int), .int .i64 0]) (by simp [results, Try.results11, go_sem]) rfl ⟨rfl, rfl⟩
  · have hm : (decide (2 ≤ b) && decide (b ≤ 16)) = false := by simp; omega
    rw [if_neg hb, if_neg hb]
    clear hb
    go_enter Try.func11, Try.ntmps11
    go_wp2_with fail
    refine (right_any b _).mono ?_
    rintro e w1 ⟨rfl, rfl⟩
    rw [hm]
    go_wp2
    exact bodyPost_ret (v := .tuple #[.int .i64 0, .int .i64 1]) (by simp [results, Try.results11, go_sem]) rfl ⟨rfl, rfl⟩

end Go.Proofs.Ytagcenfjdjaaaaa

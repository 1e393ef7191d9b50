/-
  The law TallyLog, walked.
-/
import Derived.Test.YtccfhegckdmanaaTaLog
namespace Go.Proofs.Ytccfhegckdmanaa
open Go.RowKit
set_option linter.unusedVariables false

set_option maxHeartbeats 3200000 in
/-- The walk, over letters: k is Log of n, p is 2^k, q is 2^(k-1). -/
theorem ltlog_int (n k p q B : Int) (w : World)
    (CL : Hid (∀ W, Calls Try.prog 11 #[.int .i64 n] W fun e w' => e = .returned (.int .i64 k) ∧ w' = W))
    (CR : Hid (∀ W, Calls Try.prog 12 #[.int .i64 n] W fun e w' => e = .returned (.int .i64 k) ∧ w' = W))
    (CB : Hid (∀ W, Calls Try.prog 13 #[.int .i64 n] W fun e w' => e = .returned (.int .i64 B) ∧ w' = W))
    (CC : Hid (∀ W, Calls Try.prog 14 #[.int .i64 n] W fun e w' => e = .returned (.int .i64 B) ∧ w' = W))
    (hlow : Hid (n ≤ 0 → k = 0)) (hhigh : Hid (¬ n ≤ 0 → 1 ≤ k ∧ k ≤ 63 ∧ n + 1 ≤ p ∧ q < n + 1 ∧ IntKind.i64.wrap (k - 1) = k - 1 ∧ IntKind.u64.wrap n = n ∧ IntKind.u64.wrap (1 + n) = 1 + n ∧
      IntKind.u64.wrap (2 ^ k.toNat) = p ∧ IntKind.u64.wrap (2 ^ (k.toNat - 1)) = q)) :
    Calls Try.prog 5 #[.int .i64 n] w fun e w' => e = .returned (.bool true) ∧ w' = w := by
  go_enter Try.func5, Try.ntmps5
  go_wp2_with fail
  refine (CL.out _).mono ?_
  rintro e w1 ⟨rfl, rfl⟩
  go_wp2_with fail
  refine (CR.out _).mono ?_
  rintro e w2 ⟨rfl, rfl⟩
  go_wp2_with fail
  refine (CB.out _).mono ?_
  rintro e w3 ⟨rfl, rfl⟩
  go_wp2_with fail
  refine (CC.out _).mono ?_
  rintro e w4 ⟨rfl, rfl⟩
  clear CL CR CB CC
  by_cases h : n ≤ 0
  · have hk := hlow.out h
    clear hhigh hlow
    subst hk
    go_wp2
    go_ret
    exact ⟨rfl, rfl⟩
  · obtain ⟨h1, h2, h3, h4, h5, h6, h7, h8, h9⟩ := hhigh.out (by omega)
    have h10 : 1 + n ≤ p := by omega
    have h11 : q < 1 + n := by omega
    clear hhigh hlow h3 h4
    go_wp2
    go_ret
    exact ⟨rfl, rfl⟩

theorem ltlog_walk (n : Int) (w : World) (h : -9223372036854775808 ≤ n ∧ n ≤ 9223372036854775807) :
    Calls Try.prog 5 #[.int .i64 n] w fun e w' => e = .returned (.bool true) ∧ Below w.heap.size w w' := by
  refine (ltlog_int n (logN n : Int) ((2 ^ logN n : Nat) : Int) ((2 ^ (logN n - 1) : Nat) : Int) _ w (fun W => log_any n W h) (fun W => logRef_any n W h) (fun W => bound_any n W h) (fun W => boundRef_any n W h) (fun h0 => by rw [logN_low h0]; rfl) (fun h0 => ?_)).mono ?_
  · obtain ⟨h1, h2, h3, h4⟩ := logN_bounds (show 0 < n by omega) h.2
    generalize logN n = k at *
    have hp : 2 ^ k ≤ 2 ^ 63 := Nat.pow_le_pow_right (by decide) h2
    have hq : (2 : Nat) ^ 63 = 9223372036854775808 := by decide
    refine ⟨by omega, by omega, by omega, by omega, by rw [IntKind.wrap_i64]; omega, by rw [IntKind.wrap_u64]; omega, by rw [IntKind.wrap_u64]; omega, ?_, ?_⟩
    · rw [show ((k : Int)).toNat = k from by omega, IntKind.wrap_u64, show ((2 : Int) ^ k) = ((2 ^ k : Nat) : Int) from by push_cast; rfl]
      omega
    · rw [show ((k : Int)).toNat = k from by omega, IntKind.wrap_u64, show ((2 : Int) ^ (k - 1)) = ((2 ^ (k - 1) : Nat) : Int) from by push_cast; rfl]
      generalize (2 : Nat) ^ (k - 1) = y at *
      omega
  · rintro e w' ⟨rfl, rfl⟩
    exact ⟨rfl, Below.refl _ _⟩

end Go.Proofs.Ytccfhegckdmanaa

/-
  Log and Bound of the code and of the document: how many bits a number has.
-/
import Derived.Test.YtccfhegckdmanaaTaBase
import Derived.Test.YtccfhegckdmanaaShelf
import Derived.Lib.ItoaNum
namespace Go.Proofs.Ytccfhegckdmanaa
open Go.RowKit
set_option linter.unusedVariables false

/-- How many bits n has; none, if it is below 0. -/
def logN (n : Int) : Nat := Lib.bitLen n.toNat

theorem logN_low {n : Int} (h : n ≤ 0) : logN n = 0 := by
  unfold logN
  rw [show n.toNat = 0 from by omega]
  rfl

theorem logN_bounds {n : Int} (h : 0 < n) (h2 : n ≤ 9223372036854775807) : 1 ≤ logN n ∧ logN n ≤ 63 ∧ 2 ^ (logN n - 1) ≤ n.toNat ∧ n.toNat < 2 ^ logN n := by
  have hb := Lib.bitLenAux_bounds 64 n.toNat (by have : (2 : Nat) ^ 64 = 18446744073709551616 := by decide
                                                 omega) (by omega)
  obtain ⟨h3, h4, h5⟩ := hb
  refine ⟨h3, ?_, h4, h5⟩
  refine Nat.le_of_not_lt fun h6 => ?_
  have h7 : (2 : Nat) ^ 63 ≤ 2 ^ (logN n - 1) := Nat.pow_le_pow_right (by decide) (by omega)
  have h8 : (2 : Nat) ^ (logN n - 1) ≤ n.toNat := h4
  have h9 : (2 : Nat) ^ 63 = 9223372036854775808 := by decide
  omega

theorem logN_small {n : Int} (h2 : n ≤ 9223372036854775807) : logN n ≤ 63 := by
  by_cases h : 0 < n
  · exact (logN_bounds h h2).2.1
  · rw [logN_low (by omega)]; omega

set_option maxHeartbeats 1600000 in
theorem log_any (n : Int) (w : World) (h : -9223372036854775808 ≤ n ∧ n ≤ 9223372036854775807) :
    Calls Try.prog 11 #[.int .i64 n] w fun e w' => e = .returned (.int .i64 (logN n : Int)) ∧ w' = w := by
  have HL : Hid (Calls Try.prog 22 #[.int .u64 (max n 0)] w fun e w' => e = .returned (.int .i64 (logN n : Int)) ∧ w' = w) := by
    have := Try.bits_Len (max n 0) w (by omega) (by omega)
    rw [show (max n 0).toNat = n.toNat from by omega] at this
    exact this
  go_enter Try.func11, Try.ntmps11
  go_wp2_with fail
  refine HL.out.mono ?_
  rintro e w1 ⟨rfl, rfl⟩
  go_wp2
  go_ret
  exact ⟨rfl, rfl⟩

theorem bitLen_down {c : Nat} (h : 0 < c) (h2 : c ≤ 9223372036854775807) : Lib.bitLen c = 1 + Lib.bitLen (c / 2) :=
  Lib.bitLen_half c (by omega) (by have : (2 : Nat) ^ 64 = 18446744073709551616 := by decide
                                   omega)

/-- The document's loop: what is left, and how many bits were counted. -/
def LogRel (n : Int) (v k : Value) (w wr : World) : Prop := ∃ (c : Int) (j : Nat), v = .int .i64 c ∧ k = .int .i64 (j : Int) ∧ j + logN c = logN n ∧ c ≤ 9223372036854775807 ∧ wr = w

set_option maxHeartbeats 1600000 in
theorem logRef_any (n : Int) (w : World) (h : -9223372036854775808 ≤ n ∧ n ≤ 9223372036854775807) :
    Calls Try.prog 12 #[.int .i64 n] w fun e w' => e = .returned (.int .i64 (logN n : Int)) ∧ w' = w := by
  have HS := aside (logN_small h.2)
  go_enter Try.func12, Try.ntmps12
  go_wp2
  go_loopw [0, 3] (fun v k wr => LogRel n v k w wr) (fun v _ _ => (intOf v).toNat)
  case atStart => exact ⟨n, 0, rfl, rfl, by omega, h.2, rfl⟩
  case round =>
    obtain ⟨c, j, rfl, rfl, hj, hc, rfl⟩ := hrel
    have HJ := aside hj
    clear hj
    by_cases hpos : 0 < c
    · have hd : c.tdiv 2 = c / 2 := Int.tdiv_eq_ediv_of_nonneg (by omega)
      have hjx : ((j : Int)) + 1 ≤ 9223372036854775807 := by have := HJ.out; have := HS.out; omega
      have HD : Hid (j + 1 + logN (c / 2) = logN n) := by
        have h1 := HJ.out
        have h2 : logN c = 1 + logN (c / 2) := by
          unfold logN
          rw [bitLen_down (c := c.toNat) (by omega) (by omega)]
          congr 2
          omega
        show j + 1 + logN (c / 2) = logN n
        omega
      clear HJ
      go_wp2
      go_roundw
      case rel => exact ⟨c / 2, j + 1, by first | rfl | go_num, by go_num, HD.out, by omega, rfl⟩
      case measure => simp [intOf]; omega
    · have e : j = logN n := by have := HJ.out; rw [logN_low (by omega)] at this; omega
      clear HJ
      go_wp2
      go_ret
      exact ⟨rfl, rfl⟩

set_option maxHeartbeats 1600000 in
theorem bound_any (n : Int) (w : World) (h : -9223372036854775808 ≤ n ∧ n ≤ 9223372036854775807) :
    Calls Try.prog 13 #[.int .i64 n] w fun e w' => e = .returned (.int .i64 (16 * (1 + (logN n : Int)))) ∧ w' = w := by
  have HS := logN_small h.2
  have HL := aside (log_any n w h)
  generalize logN n = k at *
  have h1 : IntKind.i64.wrap (1 + (k : Int)) = 1 + k := by rw [IntKind.wrap_i64]; omega
  have h2 : IntKind.i64.wrap (16 * (1 + (k : Int))) = 16 * (1 + k) := by rw [IntKind.wrap_i64]; omega
  clear HS h
  go_enter Try.func13, Try.ntmps13
  go_wp2_with fail
  refine HL.out.mono ?_
  rintro e w1 ⟨rfl, rfl⟩
  go_wp2
  go_ret
  exact ⟨rfl, rfl⟩

set_option maxHeartbeats 1600000 in
theorem boundRef_any (n : Int) (w : World) (h : -9223372036854775808 ≤ n ∧ n ≤ 9223372036854775807) :
    Calls Try.prog 14 #[.int .i64 n] w fun e w' => e = .returned (.int .i64 (16 * (1 + (logN n : Int)))) ∧ w' = w := by
  have HS := logN_small h.2
  have HL := aside (logRef_any n w h)
  generalize logN n = k at *
  have h1 : IntKind.i64.wrap (1 + (k : Int)) = 1 + k := by rw [IntKind.wrap_i64]; omega
  have h2 : IntKind.i64.wrap (16 * (1 + (k : Int))) = 16 * (1 + k) := by rw [IntKind.wrap_i64]; omega
  clear HS h
  go_enter Try.func14, Try.ntmps14
  go_wp2_with fail
  refine HL.out.mono ?_
  rintro e w1 ⟨rfl, rfl⟩
  go_wp2
  go_ret
  exact ⟨rfl, rfl⟩

end Go.Proofs.Ytccfhegckdmanaa

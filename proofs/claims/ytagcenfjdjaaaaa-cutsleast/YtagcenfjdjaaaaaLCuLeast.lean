/-
  The law CutsLeast, walked.
-/
import Derived.Test.YtagcenfjdjaaaaaCuLeast
namespace Go.Proofs.Ytagcenfjdjaaaaa
open Go.RowKit
set_option linter.unusedVariables false

theorem row_cap' {w : World} {B g p cap : Nat} {xs : List Value} {e : TypeId} {s : Nat} (h : w.ownsRow B e s (.slice (some ⟨g, 0, none⟩) p cap) p xs) : p ≤ cap := by
  rcases h.2 with ⟨h1, -⟩ | ⟨g', cap', cur, h1, -, -, h2, -⟩
  · cases h1
  · cases h1; exact h2

theorem part_next {k b q : Nat} (hk : 0 < k) (hb : 0 < b) (hq : q = min k b) (j : Nat) : stt k q (j + 1) ≤ stt k q j + cdiv k b := by
  rcases Nat.lt_or_ge k b with h | h
  · have e : q = k := by omega
    subst e
    have h1 := stt_cdiv q (p := q) hk j
    have h2 : cdiv q q = 1 := by rw [cdiv_big hk (Nat.le_refl _), if_neg (by omega)]
    have h3 : 1 ≤ cdiv q b := by rw [cdiv_pos hk hb]; exact Nat.le_add_left 1 _
    omega
  · have e : q = b := by omega
    subst e
    exact stt_cdiv k hb j

set_option maxHeartbeats 3200000 in
theorem cleast_bad (n b s : Int) (w : World) (h : ¬ (0 ≤ n ∧ n ≤ 256 ∧ 2 ≤ b ∧ b ≤ 16 ∧ 0 ≤ s ∧ s ≤ 63)) : Calls Try.prog 8 #[.int .i64 n, .int .i64 b, .int .i64 s] w fun e w' => e = .returned (.bool true) ∧ Below w.heap.size w w' := by
  go_enter Try.func8, Try.ntmps8
  go_wp2_with fail
  refine (least_bad n b s _ h).mono ?_
  rintro e w1 ⟨rfl, rfl⟩
  go_wp2_with fail
  refine (rleast_bad n b s _ h).mono ?_
  rintro e w2 ⟨rfl, rfl⟩
  go_wp2
  go_ret
  exact ⟨rfl, Below.refl _ _⟩

set_option maxRecDepth 100000 in
set_option maxHeartbeats 6400000 in
theorem cleast_good (n b s : Nat) (w : World) (hn : n ≤ 256) (hb : 2 ≤ b) (hb2 : b ≤ 16) (hs : s ≤ 63) : Calls Try.prog 8 #[.int .i64 (n : Int), .int .i64 (b : Int), .int .i64 (s : Int)] w fun e w' => e = .returned (.bool true) ∧ Below w.heap.size w w' := by
  have HL := aside (least_any n b s w hn hb hb2 hs)
  have HRL := aside (rleast_any n b s w hn hb hb2 hs)
  have HD := aside (show Calls Try.prog 25 #[.int .i64 (b : Int)] w fun e w' => e = .returned (.tuple #[.int .i64 (dep b : Int), .int .i64 0]) ∧ w' = w from by
    have := depth_any (b : Int) w
    rw [if_pos (by omega), if_pos (by omega), Int.toNat_natCast] at this
    exact this)
  have HL2 := aside (least_any n b (dep b) w hn hb hb2 (by have := dep_le b; omega))
  have h1 := lst_dep hb hb2 hn
  have hkn := lst_le (b := b) (by omega) n s
  have HN := aside (show lst b (s + 1) n = cdiv (lst b s n) b from rfl)
  have HLN := aside (fun w (h : s + 1 ≤ 63) => least_any n b (s + 1) w hn hb hb2 h)
  rw [HN.out] at HLN
  clear HN
  generalize lst b (dep b) n = one at *
  generalize lst b s n = k at *
  generalize dep b = d at *
  have h1' : ¬ (1 < (one : Int)) := by omega
  clear h1
  go_enter Try.func8, Try.ntmps8
  go_wp2_with fail
  refine HL.out.mono ?_
  rintro e w1 ⟨rfl, hw⟩
  subst hw
  go_wp2_with fail
  refine HRL.out.mono ?_
  rintro e w2 ⟨rfl, hw⟩
  subst hw
  go_wp2_with fail
  refine HD.out.mono ?_
  rintro e w3 ⟨rfl, hw⟩
  subst hw
  go_wp2_with fail
  refine HL2.out.mono ?_
  rintro e w4 ⟨rfl, hw⟩
  subst hw
  clear HL HRL HD HL2
  by_cases hk0 : k = 0
  · go_wp2
    go_ret
    exact ⟨rfl, Below.refl _ _⟩
  · by_cases hs63 : s = 63
    · go_wp2
      go_ret
      exact ⟨rfl, Below.refl _ _⟩
    · have hs63' : ((s : Int) == 63) = false := by simp; omega
      have hk0' : ((k : Int) == 0) = false := by simp; omega
      by_cases hkb : b < k
      · have hq1 : 1 ≤ b := by omega
        have hqk : b ≤ k := by omega
        have hsw : IntKind.i64.wrap ((s : Int) + 1) = ((s + 1 : Nat) : Int) := by rw [IntKind.wrap_i64]; omega
        have HPN := aside (fun j => part_next (by omega) (by omega) (show b = min k b from by omega) j)
        have HEN := aside (stt_end k (p := b) hq1)
        have HLE := aside (fun j (h : j ≤ b) => stt_le (n := k) (p := b) (j := j) hq1 h)
        have hcl := cdiv_le (n := k) (b := b) (by omega)
        generalize cdiv k b = nx at *
        go_wp2_with fail
        refine (starts_any k b _ hq1 hqk (by omega)).mono ?_
        rintro e w5 ⟨g5, c5, rfl, o5, l5, b5⟩
        have O5 := aside o5
        have B5 := aside b5
        have hc5 := row_cap' o5
        clear o5 b5
        go_wp2_with fail
        refine (HLN.out _ (by omega)).mono ?_
        rintro e w6 ⟨rfl, hw⟩
        subst hw
        go_wp2
        go_loopw [20] (fun i wr => ∃ j : Nat, j ≤ b ∧ i = .int .i64 (j : Int) ∧ wr = w6) (fun i _ => b - (intOf i).toNat)
        case atStart => exact ⟨0, Nat.zero_le _, rfl, rfl⟩
        case round =>
          obtain ⟨j, hj, rfl, rfl⟩ := hrel
          by_cases hlt : (j : Int) < (b : Int)
          · have c0 := stt_at O5.out (j := j) (by omega)
            have hj0 : (0 : Int) ≤ (j : Int) := by omega
            have hj1 : (0 : Int) ≤ (j : Int) + 1 := by omega
            have hjw : IntKind.i64.wrap ((j : Int) + 1) = (j : Int) + 1 := by rw [IntKind.wrap_i64]; omega
            have s1 := HPN.out j
            have s2 := HLE.out j (by omega)
            have s3 := HLE.out (j + 1) (by omega)
            by_cases hlast : (j : Int) + 1 < (b : Int)
            · have d0 := stt_at O5.out (j := j + 1) (by omega)
              generalize stt k b (j + 1) = E at *
              generalize stt k b j = S at *
              have hsub : IntKind.i64.wrap ((E : Int) - (S : Int)) = (E : Int) - (S : Int) := by rw [IntKind.wrap_i64]; omega
              have t1 : ¬ ((nx : Int) < (E : Int) - (S : Int)) := by omega
              clear s1 s2 s3
              go_wp2
              go_roundw
              case rel => exact ⟨j + 1, by omega, by go_num, by trivial⟩
              case measure => simp [intOf]; omega
            · have hkp : j + 1 = b := by omega
              rw [hkp, HEN.out] at s1 s3
              generalize stt k b j = S at *
              have hsub : IntKind.i64.wrap ((k : Int) - (S : Int)) = (k : Int) - (S : Int) := by rw [IntKind.wrap_i64]; omega
              have t1 : ¬ ((nx : Int) < (k : Int) - (S : Int)) := by omega
              clear s1 s2 s3
              go_wp2
              go_roundw
              case rel => exact ⟨j + 1, by omega, by go_num, by trivial⟩
              case measure => simp [intOf]; omega
          · go_wp2
            go_ret
            exact ⟨rfl, B5.out⟩
      · have hq1 : 1 ≤ k := by omega
        have hqk : k ≤ k := by omega
        have hsw : IntKind.i64.wrap ((s : Int) + 1) = ((s + 1 : Nat) : Int) := by rw [IntKind.wrap_i64]; omega
        have HPN := aside (fun j => part_next (by omega) (by omega) (show k = min k b from by omega) j)
        have HEN := aside (stt_end k (p := k) hq1)
        have HLE := aside (fun j (h : j ≤ k) => stt_le (n := k) (p := k) (j := j) hq1 h)
        have hcl := cdiv_le (n := k) (b := b) (by omega)
        generalize cdiv k b = nx at *
        go_wp2_with fail
        refine (starts_any k k _ hq1 hqk (by omega)).mono ?_
        rintro e w5 ⟨g5, c5, rfl, o5, l5, b5⟩
        have O5 := aside o5
        have B5 := aside b5
        have hc5 := row_cap' o5
        clear o5 b5
        go_wp2_with fail
        refine (HLN.out _ (by omega)).mono ?_
        rintro e w6 ⟨rfl, hw⟩
        subst hw
        go_wp2
        go_loopw [20] (fun i wr => ∃ j : Nat, j ≤ k ∧ i = .int .i64 (j : Int) ∧ wr = w6) (fun i _ => k - (intOf i).toNat)
        case atStart => exact ⟨0, Nat.zero_le _, rfl, rfl⟩
        case round =>
          obtain ⟨j, hj, rfl, rfl⟩ := hrel
          by_cases hlt : (j : Int) < (k : Int)
          · have c0 := stt_at O5.out (j := j) (by omega)
            have hj0 : (0 : Int) ≤ (j : Int) := by omega
            have hj1 : (0 : Int) ≤ (j : Int) + 1 := by omega
            have hjw : IntKind.i64.wrap ((j : Int) + 1) = (j : Int) + 1 := by rw [IntKind.wrap_i64]; omega
            have s1 := HPN.out j
            have s2 := HLE.out j (by omega)
            have s3 := HLE.out (j + 1) (by omega)
            by_cases hlast : (j : Int) + 1 < (k : Int)
            · have d0 := stt_at O5.out (j := j + 1) (by omega)
              generalize stt k k (j + 1) = E at *
              generalize stt k k j = S at *
              have hsub : IntKind.i64.wrap ((E : Int) - (S : Int)) = (E : Int) - (S : Int) := by rw [IntKind.wrap_i64]; omega
              have t1 : ¬ ((nx : Int) < (E : Int) - (S : Int)) := by omega
              clear s1 s2 s3
              go_wp2
              go_roundw
              case rel => exact ⟨j + 1, by omega, by go_num, by trivial⟩
              case measure => simp [intOf]; omega
            · have hkp : j + 1 = k := by omega
              rw [hkp, HEN.out] at s1 s3
              generalize stt k k j = S at *
              have hsub : IntKind.i64.wrap ((k : Int) - (S : Int)) = (k : Int) - (S : Int) := by rw [IntKind.wrap_i64]; omega
              have t1 : ¬ ((nx : Int) < (k : Int) - (S : Int)) := by omega
              clear s1 s2 s3
              go_wp2
              go_roundw
              case rel => exact ⟨j + 1, by omega, by go_num, by trivial⟩
              case measure => simp [intOf]; omega
          · go_wp2
            go_ret
            exact ⟨rfl, B5.out⟩

theorem cleast_walk (n b s : Int) (w : World) : Calls Try.prog 8 #[.int .i64 n, .int .i64 b, .int .i64 s] w fun e w' => e = .returned (.bool true) ∧ Below w.heap.size w w' := by
  by_cases h : 0 ≤ n ∧ n ≤ 256 ∧ 2 ≤ b ∧ b ≤ 16 ∧ 0 ≤ s ∧ s ≤ 63
  · have := cleast_good n.toNat b.toNat s.toNat w (by omega) (by omega) (by omega) (by omega)
    rw [show ((n.toNat : Nat) : Int) = n from by omega, show ((b.toNat : Nat) : Int) = b from by omega, show ((s.toNat : Nat) : Int) = s from by omega] at this
    exact this
  · exact cleast_bad n b s w h

end Go.Proofs.Ytagcenfjdjaaaaa

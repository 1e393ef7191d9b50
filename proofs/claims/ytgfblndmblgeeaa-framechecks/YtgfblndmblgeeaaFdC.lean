/-
  CheckParts: the document's own.
-/
import Derived.Test.YtgfblndmblgeeaaFdP
import Derived.Test.YtgfblndmblgeeaaFdN
namespace Go.Proofs.Ytgfblndmblgeeaa
open Go.RowKit
set_option linter.unusedVariables false
theorem rpart_any (a : Option Addr) (len cap : Nat) (P : Nat → Pm) (i : Nat) (w : World) (h : PartsIn w a len cap P) (hi0 : i < len) :
    Calls Try.prog 42 #[.slice a len cap, .int .i64 (i : Int)] w fun e w' => e = .returned (.int .i64 (ptAt P i)) ∧ Below w.heap.size w w' := by
  obtain ⟨p, hp⟩ : ∃ p, P i = p := ⟨_, rfl⟩
  obtain ⟨kind, lo, hi, op, cnt, s0, s1, ea, el, ec, T⟩ := p
  cases ha : Pm.alone ⟨kind, lo, hi, op, cnt, s0, s1, ea, el, ec, T⟩
  · exact rpart_bad a len cap P i w h hi0 kind lo hi op cnt s0 s1 ea el ec T hp ha
  · unfold Pm.alone at ha
    dsimp only at ha
    by_cases h1 : kind = 1
    · rw [if_pos h1] at ha
      exact rpart_pr a len cap P i w h hi0 kind lo hi op cnt s0 s1 ea el ec T hp h1 (by simpa using ha)
    · rw [if_neg h1] at ha
      by_cases h2 : kind = 2 ∨ kind = 3
      · rw [if_pos h2] at ha
        exact rpart_np a len cap P i w h hi0 kind lo hi op cnt s0 s1 ea el ec T hp h2 ha
      · rw [if_neg h2] at ha
        cases ha
theorem rpart_of {a : Option Addr} {len cap : Nat} {P : Nat → Pm} {i : Nat} {w : World} (h : PartsIn w a len cap P) (hi0 : i < len) {q : Int} (hq : ptAt P i = q) :
    Calls Try.prog 42 #[.slice a len cap, .int .i64 (i : Int)] w fun e w' => e = .returned (.int .i64 q) ∧ Below w.heap.size w w' := by
  subst hq
  exact rpart_any a len cap P i w h hi0
set_option maxHeartbeats 6400000 in
set_option maxRecDepth 100000 in
theorem partsR_any (a : Option Addr) (len cap : Nat) (P : Nat → Pm) (w : World) (h : PartsIn w a len cap P) :
    Calls Try.prog 15 #[.slice a len cap] w fun e w' => e = .returned (.int .i64 (psChk P len)) ∧ Below w.heap.size w w' := by
  have HE := aside h
  obtain ⟨hlc, hcm, -⟩ := h
  have hmx : (len : Int) ≤ 9223372036854775807 := by unfold maxLen at hcm; omega
  clear hlc hcm
  by_cases h1 : (768 : Int) < (len : Int)
  · go_enter Try.func15, Try.ntmps15
    go_wp2
    go_ret
    exact ⟨ret_i64 (by unfold psChk; rw [if_pos (.inl (by omega))]), Below.refl _ _⟩
  · go_enter Try.func15, Try.ntmps15
    go_wp2
    go_loopw [3, 4] (fun c i wr => ∃ j : Nat, c = .int .i64 (totE P j : Int) ∧ i = .int .i64 (j : Int) ∧ j ≤ len ∧ Hid (totE P j ≤ 256) ∧ Hid (Below w.heap.size w wr)) (fun c i _ => len - (intOf i).toNat)
    case atStart => exact ⟨0, rfl, rfl, Nat.zero_le _, Nat.zero_le _, Below.refl _ _⟩
    case round =>
      obtain ⟨j, rfl, rfl, hj, HM, HB0⟩ := hrel
      by_cases hlt : (j : Int) < (len : Int)
      · have hE := HE.out.keep HB0.out
        rcases hE.2.2 with h0 | ⟨b, off, rfl, hb, hc⟩
        · omega
        obtain ⟨hat, hin⟩ := hc j (by omega)
        obtain ⟨p, hp⟩ : ∃ p, P j = p := ⟨_, rfl⟩
        have HP := aside hp
        rw [hp] at hat hin
        clear hp hc
        obtain ⟨kind, lo, hi, op, cnt, s0, s1, ea, el, ec, T⟩ := p
        obtain ⟨c0, c1, c2, c3, c4, c5, c6, c7⟩ := hat
        dsimp only at c0 c1 c2 c3 c4 c5 c6 c7
        have hj0 : (0 : Int) ≤ (j : Int) := by omega
        have hst : totE P (j + 1) = totE P j + el := by simp only [totE, HP.out]
        have HST := aside hst
        have hEL := hin.1
        have hEC := hin.2.1
        unfold maxLen at hEC
        obtain ⟨tj, htj⟩ : ∃ tj, totE P j = tj := ⟨_, rfl⟩
        rw [htj] at hst HM ⊢
        have htj2 : (tj : Int) ≤ 256 := by have := HM.out; omega
        have hw1 : IntKind.i64.wrap (256 - (tj : Int)) = 256 - (tj : Int) := by simp only [IntKind.wrap_i64]; omega
        by_cases hbig : 256 - (tj : Int) < (el : Int)
        · have HBG := aside (show 256 < totE P len from by have h1 := totE_mono P (i := j + 1) (n := len) (by omega); have h2 := HST.out; omega)
          clear hin hst hEL hEC
          go_wp2
          go_ret
          exact ⟨ret_i64 (by unfold psChk; rw [if_pos (.inr HBG.out)]), HB0.out⟩
        · have hw : IntKind.i64.wrap ((tj : Int) + (el : Int)) = (totE P (j + 1) : Int) := by simp only [IntKind.wrap_i64]; omega
          have HMN := aside (show totE P (j + 1) ≤ 256 from by omega)
          clear hin hst hEL hEC
          go_wp2
          go_roundw
          case rel => exact ⟨j + 1, by first | rfl | rw [hw], by go_num, by omega, HMN.out, HB0.out⟩
          case measure => simp [intOf]; omega
      · have hjl : j = len := by omega
        subst hjl
        have HPS := aside (show psChk P j = ptN P j from by unfold psChk; rw [if_neg (by have := HM.out; omega)])
        go_wp2
        go_loopw [5] (fun i wr => ∃ k : Nat, i = .int .i64 (k : Int) ∧ k ≤ j ∧ Hid (ptN P k = 0) ∧ Below w.heap.size w wr) (fun i _ => j - (intOf i).toNat)
        case atStart => exact ⟨0, rfl, Nat.zero_le _, rfl, HB0.out⟩
        case round =>
          obtain ⟨k, rfl, hk, HC, hB⟩ := hrel
          have HB := aside hB
          clear hB
          by_cases hlt2 : (k : Int) < (j : Int)
          · obtain ⟨q2, hq2⟩ : ∃ q2, ptAt P k = q2 := ⟨_, rfl⟩
            have HQ2 := aside hq2
            have CQ := aside (rpart_of (HE.out.keep HB.out) (show k < j by omega) hq2)
            clear hq2
            by_cases hq0 : q2 = 0
            · subst hq0
              go_wp2_with fail
              refine CQ.out.mono ?_
              rintro e w2 ⟨rfl, b2⟩
              have B2 := aside (HB.out.trans (b2.mono HB.out.size))
              clear b2 CQ
              go_wp2
              go_roundw
              case rel => exact ⟨k + 1, by go_num, by omega, (ptN_step HC.out).trans HQ2.out, B2.out⟩
              case measure => simp [intOf]; omega
            · have HQ0 := aside hq0
              go_wp2_with fail
              refine CQ.out.mono ?_
              rintro e w2 ⟨rfl, b2⟩
              have B2 := aside (HB.out.trans (b2.mono HB.out.size))
              clear b2 CQ
              have hqb : (q2 == 0) = false := by simpa using hq0
              go_wp2
              go_ret
              exact ⟨ret_i64 (by rw [HPS.out, ptN_bad HC.out (by omega) (by rw [HQ2.out]; exact HQ0.out)]; exact HQ2.out.symm), B2.out⟩
          · have hkl : k = j := by omega
            subst hkl
            go_wp2
            go_ret
            exact ⟨ret_i64 (by rw [HPS.out]; exact HC.out.symm), HB.out⟩
end Go.Proofs.Ytgfblndmblgeeaa

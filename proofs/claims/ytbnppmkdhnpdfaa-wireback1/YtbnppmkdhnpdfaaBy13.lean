/-
  CheckParts: the document's own.
  Check: the document's own.
  Rows of parts that a call owns: their cells, a list appended.
  The parts of a frame read.
  Word of the code's writer: eight bytes, the highest first; nothing turned but the writer.
  Frames as bytes, plain: written and read again.
-/
import Derived.Test.YtbnppmkdhnpdfaaBy11
import Derived.Test.YtbnppmkdhnpdfaaBy12
import Derived.Test.YtbnppmkdhnpdfaaBy5
import Derived.OwnWalk
import Derived.Laws.OwnMore
import Derived.Test.YtbnppmkdhnpdfaaBy6
import Derived.Deep.CutBlock
import Derived.Deep.DeepCutAuto
import Derived.Test.YtbnppmkdhnpdfaaBy1
import Derived.Deep.RegionHeld3
import Derived.Deep.RegionLaw
import Derived.Test.YtbnppmkdhnpdfaaBy4
namespace Go.Proofs.Ytbnppmkdhnpdfaa
open Go.RowKit
set_option linter.unusedVariables false
theorem rpart_any (a : Option Addr) (len cap : Nat) (P : Nat → Pm) (i : Nat) (w : World) (h : PartsIn w a len cap P) (hi0 : i < len) :
    Calls Try.prog 66 #[.slice a len cap, .int .i64 (i : Int)] w fun e w' => e = .returned (.int .i64 (ptAt P i)) ∧ Below w.heap.size w w' := by
  obtain ⟨p, hp⟩ : ∃ p, P i = p := ⟨_, rfl⟩
  obtain ⟨kind, lo, hi, op, cnt, s0, s1, ea, el, ec, T⟩ := p
  cases ha : Pm.alone ⟨kind, lo, hi, op, cnt, s0, s1, ea, el, ec, T⟩
  · exact rpart_bad a len cap P i w h hi0 kind lo hi op cnt s0 s1 ea el ec T hp ha
  · unfold Pm.alone at ha
    dsimp only at ha
    by_cases h1 : kind = 1
    · rw [if_pos h1] at ha
      exact rpart_pr a len cap P i w h hi0 kind lo hi op cnt s0 s1 ea el ec T hp h1 (by simpa using ha)
    · rw [if_neg h1] at ha
      by_cases h2 : kind = 2 ∨ kind = 3
      · rw [if_pos h2] at ha
        exact rpart_np a len cap P i w h hi0 kind lo hi op cnt s0 s1 ea el ec T hp h2 ha
      · rw [if_neg h2] at ha
        cases ha
theorem rpart_of {a : Option Addr} {len cap : Nat} {P : Nat → Pm} {i : Nat} {w : World} (h : PartsIn w a len cap P) (hi0 : i < len) {q : Int} (hq : ptAt P i = q) :
    Calls Try.prog 66 #[.slice a len cap, .int .i64 (i : Int)] w fun e w' => e = .returned (.int .i64 q) ∧ Below w.heap.size w w' := by
  subst hq
  exact rpart_any a len cap P i w h hi0
set_option maxHeartbeats 6400000 in
set_option maxRecDepth 100000 in
theorem partsR_any (a : Option Addr) (len cap : Nat) (P : Nat → Pm) (w : World) (h : PartsIn w a len cap P) :
    Calls Try.prog 44 #[.slice a len cap] w fun e w' => e = .returned (.int .i64 (psChk P len)) ∧ Below w.heap.size w w' := by
  have HE := aside h
  obtain ⟨hlc, hcm, -⟩ := h
  have hmx : (len : Int) ≤ 9223372036854775807 := by unfold maxLen at hcm; omega
  clear hlc hcm
  by_cases h1 : (768 : Int) < (len : Int)
  · go_enter Try.func44, Try.ntmps44
    go_wp2
    go_ret
    exact ⟨ret_i64 (by unfold psChk; rw [if_pos (.inl (by omega))]), Below.refl _ _⟩
  · go_enter Try.func44, Try.ntmps44
    go_wp2
    go_loopw [3, 4] (fun c i wr => ∃ j : Nat, c = .int .i64 (totE P j : Int) ∧ i = .int .i64 (j : Int) ∧ j ≤ len ∧ Hid (totE P j ≤ 256) ∧ Hid (Below w.heap.size w wr)) (fun c i _ => len - (intOf i).toNat)
    case atStart => exact ⟨0, rfl, rfl, Nat.zero_le _, Nat.zero_le _, Below.refl _ _⟩
    case round =>
      obtain ⟨j, rfl, rfl, hj, HM, HB0⟩ := hrel
      by_cases hlt : (j : Int) < (len : Int)
      · have hE := HE.out.keep HB0.out
        rcases hE.2.2 with h0 | ⟨b, off, rfl, hb, hc⟩
        · omega
        obtain ⟨hat, hin⟩ := hc j (by omega)
        obtain ⟨p, hp⟩ : ∃ p, P j = p := ⟨_, rfl⟩
        have HP := aside hp
        rw [hp] at hat hin
        clear hp hc
        obtain ⟨kind, lo, hi, op, cnt, s0, s1, ea, el, ec, T⟩ := p
        obtain ⟨c0, c1, c2, c3, c4, c5, c6, c7⟩ := hat
        dsimp only at c0 c1 c2 c3 c4 c5 c6 c7
        have hj0 : (0 : Int) ≤ (j : Int) := by omega
        have hst : totE P (j + 1) = totE P j + el := by simp only [totE, HP.out]
        have HST := aside hst
        have hEL := hin.1
        have hEC := hin.2.1
        unfold maxLen at hEC
        obtain ⟨tj, htj⟩ : ∃ tj, totE P j = tj := ⟨_, rfl⟩
        rw [htj] at hst HM ⊢
        have htj2 : (tj : Int) ≤ 256 := by have := HM.out; omega
        have hw1 : IntKind.i64.wrap (256 - (tj : Int)) = 256 - (tj : Int) := by simp only [IntKind.wrap_i64]; omega
        by_cases hbig : 256 - (tj : Int) < (el : Int)
        · have HBG := aside (show 256 < totE P len from by have h1 := totE_mono P (i := j + 1) (n := len) (by omega); have h2 := HST.out; omega)
          clear hin hst hEL hEC
          go_wp2
          go_ret
          exact ⟨ret_i64 (by unfold psChk; rw [if_pos (.inr HBG.out)]), HB0.out⟩
        · have hw : IntKind.i64.wrap ((tj : Int) + (el : Int)) = (totE P (j + 1) : Int) := by simp only [IntKind.wrap_i64]; omega
          have HMN := aside (show totE P (j + 1) ≤ 256 from by omega)
          clear hin hst hEL hEC
          go_wp2
          go_roundw
          case rel => exact ⟨j + 1, by first | rfl | rw [hw], by go_num, by omega, HMN.out, HB0.out⟩
          case measure => simp [intOf]; omega
      · have hjl : j = len := by omega
        subst hjl
        have HPS := aside (show psChk P j = ptN P j from by unfold psChk; rw [if_neg (by have := HM.out; omega)])
        go_wp2
        go_loopw [5] (fun i wr => ∃ k : Nat, i = .int .i64 (k : Int) ∧ k ≤ j ∧ Hid (ptN P k = 0) ∧ Below w.heap.size w wr) (fun i _ => j - (intOf i).toNat)
        case atStart => exact ⟨0, rfl, Nat.zero_le _, rfl, HB0.out⟩
        case round =>
          obtain ⟨k, rfl, hk, HC, hB⟩ := hrel
          have HB := aside hB
          clear hB
          by_cases hlt2 : (k : Int) < (j : Int)
          · obtain ⟨q2, hq2⟩ : ∃ q2, ptAt P k = q2 := ⟨_, rfl⟩
            have HQ2 := aside hq2
            have CQ := aside (rpart_of (HE.out.keep HB.out) (show k < j by omega) hq2)
            clear hq2
            by_cases hq0 : q2 = 0
            · subst hq0
              go_wp2_with fail
              refine CQ.out.mono ?_
              rintro e w2 ⟨rfl, b2⟩
              have B2 := aside (HB.out.trans (b2.mono HB.out.size))
              clear b2 CQ
              go_wp2
              go_roundw
              case rel => exact ⟨k + 1, by go_num, by omega, (ptN_step HC.out).trans HQ2.out, B2.out⟩
              case measure => simp [intOf]; omega
            · have HQ0 := aside hq0
              go_wp2_with fail
              refine CQ.out.mono ?_
              rintro e w2 ⟨rfl, b2⟩
              have B2 := aside (HB.out.trans (b2.mono HB.out.size))
              clear b2 CQ
              have hqb : (q2 == 0) = false := by simpa using hq0
              go_wp2
              go_ret
              exact ⟨ret_i64 (by rw [HPS.out, ptN_bad HC.out (by omega) (by rw [HQ2.out]; exact HQ0.out)]; exact HQ2.out.symm), B2.out⟩
          · have hkl : k = j := by omega
            subst hkl
            go_wp2
            go_ret
            exact ⟨ret_i64 (by rw [HPS.out]; exact HC.out.symm), HB.out⟩
end Go.Proofs.Ytbnppmkdhnpdfaa
namespace Go.Proofs.Ytbnppmkdhnpdfaa
open Go.RowKit
set_option linter.unusedVariables false
set_option maxHeartbeats 400000 in
theorem endR_any (n : Int) (w : World) : Calls Try.prog 42 #[.int .i64 n] w fun e w' => e = .returned (.bool (nodeB n)) ∧ w' = w := by
  by_cases h1 : n < 0
  · have h0 : ¬ 0 ≤ n := by omega
    go_enter Try.func42, Try.ntmps42
    go_wp2
    go_ret
    exact ⟨ret_bool (node_no1 (by omega)).symm, rfl⟩
  · have h0 : 0 ≤ n := by omega
    by_cases h2 : 8 ≤ n
    · have h3 : ¬ n < 8 := by omega
      go_enter Try.func42, Try.ntmps42
      go_wp2
      go_ret
      exact ⟨ret_bool (node_no2 (by omega)).symm, rfl⟩
    · have h3 : n < 8 := by omega
      go_enter Try.func42, Try.ntmps42
      go_wp2
      go_ret
      exact ⟨ret_bool (node_yes (by omega) (by omega)).symm, rfl⟩
theorem endR_at {n : Int} {q : Bool} (h : nodeB n = q) (w : World) : Calls Try.prog 42 #[.int .i64 n] w fun e w' => e = .returned (.bool q) ∧ w' = w := by
  subst h; exact endR_any n w
theorem partsR_of {a : Option Addr} {len cap : Nat} {P : Nat → Pm} {w : World} (h : PartsIn w a len cap P) {q : Int} (hq : psChk P len = q) :
    Calls Try.prog 44 #[.slice a len cap] w fun e w' => e = .returned (.int .i64 q) ∧ Below w.heap.size w w' := by
  subst hq; exact partsR_any a len cap P w h
theorem rg_ne_run (lo hi : ByteArray) (op : Bool) (lo' hi' : ByteArray) (op' : Bool) (w : World) : (binOp .neq 38 (.agg #[.string lo, .string hi, .bool op]) (.agg #[.string lo', .string hi', .bool op'])).run Try.prog w = .ok (.bool (!(lo.toList == lo'.toList && (hi.toList == hi'.toList && op == op')))) w := by
  rw [run_neq_struct, show (10000 : Nat) = 9999 + 1 from rfl]
  go_simp
  cases h1 : (lo.toList == lo'.toList) <;> cases h2 : (hi.toList == hi'.toList) <;> cases op <;> cases op' <;> simp_all
set_option maxHeartbeats 12800000 in
set_option maxRecDepth 100000 in
theorem chkR_any (fr tz o l n tn : Int) (a : Option Addr) (len cap : Nat) (P : Nat → Pm) (w : World) (h : PartsIn w a len cap P) :
    Calls Try.prog 17 #[.agg #[.int .i64 fr, .int .i64 tz, .int .i64 o, .int .i64 l, .int .i64 n, .int .i64 tn, .slice a len cap]] w fun e w' => e = .returned (.int .i64 (fChk fr tz o l n tn P len)) ∧ Below w.heap.size w w' := by
  obtain ⟨q2, hq2⟩ : ∃ q, Nm.chk o l n = q := ⟨_, rfl⟩
  obtain ⟨q4, hq4⟩ : ∃ q, psChk P len = q := ⟨_, rfl⟩
  have C2 := aside (fun W => nchkR_at hq2 W)
  have C4 := aside (fun W (bb : Below w.heap.size w W) => partsR_of (h.keep bb) hq4)
  have H2 := aside hq2
  have H4 := aside hq4
  have HE := aside h
  clear hq2 hq4 h
  go_enter Try.func17, Try.ntmps17
  go_upto_region 2 with fail
  have BX := aside (bnew w (.cells #[.int .i64 fr, .int .i64 tz, .int .i64 o, .int .i64 l, .int .i64 n, .int .i64 tn, .slice a len cap] 26))
  have KX := aside (heap_alloc_new w (.cells #[.int .i64 fr, .int .i64 tz, .int .i64 o, .int .i64 l, .int .i64 n, .int .i64 tn, .slice a len cap] 26))
  generalize w.alloc (.cells #[.int .i64 fr, .int .i64 tz, .int .i64 o, .int .i64 l, .int .i64 n, .int .i64 tn, .slice a len cap] 26) = X0 at BX KX ⊢
  have SX := aside (fun W (bb : Below X0.heap.size X0 W) => (show W.cell? ⟨w.heap.size, 0, none⟩ = some (.int .i64 fr) ∧ W.cell? ⟨w.heap.size, 1, none⟩ = some (.int .i64 tz) ∧ W.cell? ⟨w.heap.size, 2, none⟩ = some (.int .i64 o) ∧ W.cell? ⟨w.heap.size, 3, none⟩ = some (.int .i64 l) ∧ W.cell? ⟨w.heap.size, 4, none⟩ = some (.int .i64 n) ∧ W.cell? ⟨w.heap.size, 5, none⟩ = some (.int .i64 tn) ∧ W.cell? ⟨w.heap.size, 6, none⟩ = some (.slice a len cap) from sep7 (blk_on KX.out bb)))
  obtain ⟨f0, f1, f2, f3, f4, f5, f6⟩ := SX.out _ (Below.refl _ X0)
  go_cut [36] (fun s9 wx => s9 = .bool (!endsB fr tz o) ∧ Below X0.heap.size X0 wx)
  case first =>
    cases h1 : nodeB fr
    · have H1 := aside h1
      clear h1
      go_wp2_with fail
      refine (endR_at H1.out _).mono ?_
      rintro e w9 ⟨rfl, rfl⟩
      go_wp2
      go_meet
      exact ⟨by rw [show endsB fr tz o = false from by unfold endsB; rw [H1.out]; rfl]; rfl, Below.refl _ _⟩
    · have H1 := aside h1
      clear h1
      cases h2 : nodeB tz
      · have H2' := aside h2
        clear h2
        go_wp2_with fail
        refine (endR_at H1.out _).mono ?_
        rintro e w9 ⟨rfl, rfl⟩
        go_wp2_with fail
        refine (endR_at H2'.out _).mono ?_
        rintro e w9 ⟨rfl, rfl⟩
        go_wp2
        go_meet
        exact ⟨by rw [show endsB fr tz o = false from by unfold endsB; rw [H1.out, H2'.out]; rfl]; rfl, Below.refl _ _⟩
      · have H2' := aside h2
        clear h2
        by_cases h3 : fr = tz
        · subst h3
          go_wp2_with fail
          refine (endR_at H1.out _).mono ?_
          rintro e w9 ⟨rfl, rfl⟩
          go_wp2_with fail
          refine (endR_at H2'.out _).mono ?_
          rintro e w9 ⟨rfl, rfl⟩
          go_wp2
          go_meet
          exact ⟨by rw [show endsB fr fr o = false from by unfold endsB; rw [beq_self_eq_true]; simp]; rfl, Below.refl _ _⟩
        · have b3 : (fr == tz) = false := by simpa using h3
          have H3 := aside b3
          by_cases h4 : o = fr
          · subst h4
            go_wp2_with fail
            refine (endR_at H1.out _).mono ?_
            rintro e w9 ⟨rfl, rfl⟩
            go_wp2_with fail
            refine (endR_at H2'.out _).mono ?_
            rintro e w9 ⟨rfl, rfl⟩
            go_wp2
            go_meet
            exact ⟨by rw [show endsB o tz o = true from by unfold endsB; rw [H1.out, H2'.out, H3.out, beq_self_eq_true]; rfl]; rfl, Below.refl _ _⟩
          · have b4 : (o == fr) = false := by simpa using h4
            have H4' := aside b4
            by_cases h5 : o = tz
            · subst h5
              go_wp2_with fail
              refine (endR_at H1.out _).mono ?_
              rintro e w9 ⟨rfl, rfl⟩
              go_wp2_with fail
              refine (endR_at H2'.out _).mono ?_
              rintro e w9 ⟨rfl, rfl⟩
              go_wp2
              go_meet
              exact ⟨by rw [show endsB fr o o = true from by unfold endsB; rw [H1.out, H2'.out, H3.out, H4'.out, beq_self_eq_true]; rfl]; rfl, Below.refl _ _⟩
            · have b5 : (o == tz) = false := by simpa using h5
              have H5' := aside b5
              go_wp2_with fail
              refine (endR_at H1.out _).mono ?_
              rintro e w9 ⟨rfl, rfl⟩
              go_wp2_with fail
              refine (endR_at H2'.out _).mono ?_
              rintro e w9 ⟨rfl, rfl⟩
              go_wp2
              go_meet
              exact ⟨by rw [show endsB fr tz o = false from by unfold endsB; rw [H1.out, H2'.out, H3.out, H4'.out, H5'.out]; rfl]; simp only [bne, H4'.out, H5'.out]; rfl, Below.refl _ _⟩
  case rest =>
    obtain ⟨rfl, hbc⟩ := hcut
    have B1 := aside hbc
    clear f0 f1 f2 f3 f4 f5 f6 hbc
    obtain ⟨f0, f1, f2, f3, f4, f5, f6⟩ := SX.out _ B1.out
    cases hen : endsB fr tz o
    · have H1 := aside hen
      go_wp2
      go_ret
      exact ⟨ret_i64 (fchk_1 H1.out).symm, bthen BX.out B1.out⟩
    · have H1 := aside hen
      clear hen
      by_cases h2 : q2 = 0
      · subst h2
        go_wp2_with fail
        refine (C2.out _).mono ?_
        rintro e w2 ⟨rfl, b2⟩
        have B2 := aside (B1.out.trans (b2.mono B1.out.size))
        clear b2 f0 f1 f2 f3 f4 f5 f6
        obtain ⟨f0, f1, f2, f3, f4, f5, f6⟩ := SX.out _ B2.out
        go_upto_region 7 with fail
        go_cut [61] (fun s9 wx => s9 = .bool (!turnB tn fr o) ∧ Below w2.heap.size w2 wx)
        case first =>
          by_cases t1 : tn < 0
          · skip
            go_wp2
            go_meet
            exact ⟨by rw [show turnB tn fr o = false from by unfold turnB; rw [decide_eq_false (show ¬ ¬ tn < 0 by omega)]; rfl]; rfl, Below.refl _ _⟩
          · by_cases t2 : 63 < tn
            · skip
              go_wp2
              go_meet
              exact ⟨by rw [show turnB tn fr o = false from by unfold turnB; rw [decide_eq_false (show ¬ ¬ 63 < tn by omega), Bool.and_false]; rfl]; rfl, Below.refl _ _⟩
            · have HTN := aside (show ¬ tn < 0 ∧ ¬ 63 < tn from ⟨t1, t2⟩)
              obtain ⟨q, hq⟩ : ∃ q, (tn % 2 == 0) = q := ⟨_, rfl⟩
              obtain ⟨z, hz⟩ : ∃ z, (fr == o) = z := ⟨_, rfl⟩
              have HQ := aside hq
              have HZ := aside hz
              cases q <;> cases z
              all_goals
                go_wp2
                go_meet
                exact ⟨by unfold turnB; rw [HQ.out, HZ.out, decide_eq_true (show ¬ tn < 0 by have := HTN.out.1; omega), decide_eq_true (show ¬ 63 < tn by have := HTN.out.2; omega)]; rfl, Below.refl _ _⟩
        case rest =>
          obtain ⟨rfl, hbc⟩ := hcut
          have B3 := aside (B2.out.trans (hbc.mono B2.out.size))
          clear f0 f1 f2 f3 f4 f5 f6 hbc
          obtain ⟨f0, f1, f2, f3, f4, f5, f6⟩ := SX.out _ B3.out
          cases htu : turnB tn fr o
          · have H3 := aside htu
            go_wp2
            go_ret
            exact ⟨ret_i64 (fchk_3 H1.out H2.out H3.out).symm, bthen BX.out B3.out⟩
          · have H3 := aside htu
            clear htu
            by_cases h4 : q4 = 0
            · subst h4
              go_wp2_with fail
              refine (C4.out _ (bthen BX.out B3.out)).mono ?_
              rintro e w4 ⟨rfl, b4⟩
              have B4 := aside (B3.out.trans (b4.mono B3.out.size))
              clear b4 f0 f1 f2 f3 f4 f5 f6
              obtain ⟨f0, f1, f2, f3, f4, f5, f6⟩ := SX.out _ B4.out
              by_cases h6 : tn = 0
              · subst h6
                by_cases hl1 : len = 1
                · subst hl1
                  rcases (HE.out.keep (bthen BX.out B4.out)).2.2 with h0 | ⟨b, off, rfl, hb, hc⟩
                  · omega
                  obtain ⟨hat, -⟩ := hc 0 (by omega)
                  rw [Nat.zero_mul, Nat.add_zero] at hat
                  obtain ⟨p, hp⟩ : ∃ p, P 0 = p := ⟨_, rfl⟩
                  have HP := aside hp
                  rw [hp] at hat
                  clear hp hc
                  obtain ⟨kind, lo, hi, op, cnt, s0, s1, ea, el, ec, T⟩ := p
                  obtain ⟨c0, c1, c2, c3, -⟩ := hat
                  dsimp only at c0 c1 c2 c3
                  by_cases hk : kind = 1
                  · subst hk
                    obtain ⟨q, hq⟩ : ∃ q, (lo.toList == (⟨#[]⟩ : ByteArray).toList && (hi.toList == (⟨#[]⟩ : ByteArray).toList && op == true)) = q := ⟨_, rfl⟩
                    have RQ := fun W => rg_ne_run lo hi op ⟨#[]⟩ ⟨#[]⟩ true W
                    rw [hq] at RQ
                    have H5 := aside (show opening P 1 = q from by unfold opening; rw [HP.out]; dsimp only; rw [hq]; rfl)
                    clear hq
                    cases q
                    · go_wp2
                      go_ret
                      exact ⟨ret_i64 (fchk_5 H1.out H2.out H3.out H4.out rfl H5.out).symm, bthen BX.out B4.out⟩
                    · go_wp2
                      go_ret
                      exact ⟨ret_i64 (fchk_6 H1.out H2.out H3.out H4.out (fun g => by rw [H5.out] at g; cases g.2)).symm, bthen BX.out B4.out⟩
                  · have bk : (kind == 1) = false := by simpa using hk
                    have H5 := aside (show opening P 1 = false from by unfold opening; rw [HP.out]; dsimp only; rw [bk]; rfl)
                    go_wp2
                    go_ret
                    exact ⟨ret_i64 (fchk_5 H1.out H2.out H3.out H4.out rfl H5.out).symm, bthen BX.out B4.out⟩
                · have bl : ((len : Int) == 1) = false := by simp; omega
                  have H5 := aside (show opening P len = false from by unfold opening; rw [decide_eq_false hl1]; rfl)
                  go_wp2
                  go_ret
                  exact ⟨ret_i64 (fchk_5 H1.out H2.out H3.out H4.out rfl H5.out).symm, bthen BX.out B4.out⟩
              · have b6 : (tn == 0) = false := by simpa using h6
                have H6 := aside h6
                go_wp2
                go_ret
                exact ⟨ret_i64 (fchk_6 H1.out H2.out H3.out H4.out (fun g => H6.out g.1)).symm, bthen BX.out B4.out⟩
            · have b4q : (q4 == 0) = false := by simpa using h4
              have N4 := aside h4
              go_wp2_with fail
              refine (C4.out _ (bthen BX.out B3.out)).mono ?_
              rintro e w4 ⟨rfl, b4⟩
              have B4 := aside (B3.out.trans (b4.mono B3.out.size))
              clear b4 f0 f1 f2 f3 f4 f5 f6
              go_wp2
              go_ret
              exact ⟨ret_i64 ((fchk_4 H1.out H2.out H3.out (by rw [H4.out]; exact N4.out)).trans H4.out).symm, bthen BX.out B4.out⟩
      · have b2q : (q2 == 0) = false := by simpa using h2
        have N2 := aside h2
        go_wp2_with fail
        refine (C2.out _).mono ?_
        rintro e w2 ⟨rfl, b2⟩
        have B2 := aside (B1.out.trans (b2.mono B1.out.size))
        clear b2 f0 f1 f2 f3 f4 f5 f6
        go_wp2
        go_ret
        exact ⟨ret_i64 ((fchk_2 H1.out (by rw [H2.out]; exact N2.out)).trans H2.out).symm, bthen BX.out B2.out⟩
end Go.Proofs.Ytbnppmkdhnpdfaa
namespace Go.Proofs.Ytbnppmkdhnpdfaa
open Go.RowKit
set_option linter.unusedVariables false
def ptVals (p : Pm) : List Value := [.int .i64 p.kind, .string p.lo, .string p.hi, .bool p.op, .int .i64 p.cnt, .int .u64 p.s0, .int .u64 p.s1, .slice p.ea p.el p.ec]
def ptCells : List Pm → List Value
  | [] => []
  | e :: r => ptVals e ++ ptCells r
theorem ptCells_length : ∀ l : List Pm, (ptCells l).length = l.length * 8
  | [] => rfl
  | e :: r => by simp only [ptCells, List.length_append, ptCells_length r, List.length_cons, ptVals]; simp; omega
theorem ptCells_append : ∀ l m : List Pm, ptCells (l ++ m) = ptCells l ++ ptCells m
  | [], _ => rfl
  | e :: r, m => by simp [ptCells, ptCells_append r m]
theorem ptCells_at : ∀ (l : List Pm) (i r : Nat) (e : Pm), l[i]? = some e → r < 8 → (ptCells l)[i * 8 + r]? = (ptVals e)[r]?
  | [], i, r, e, h, _ => by simp at h
  | x :: t, 0, r, e, h, hr => by
    simp at h; subst h
    simp only [ptCells]
    rw [List.getElem?_append_left (by simp [ptVals]; omega)]
    simp
  | x :: t, i + 1, r, e, h, hr => by
    simp only [ptCells]
    rw [List.getElem?_append_right (by simp [ptVals]; omega)]
    have := ptCells_at t i r e (by simpa using h) hr
    rw [← this]
    congr 1
    simp [ptVals]
    omega
theorem ptCells_one (l : List Pm) : ∀ u ∈ ptCells l, u.oneCell' = true := by
  induction l with
  | nil => intro u hu; simp [ptCells] at hu
  | cons e r ih =>
    intro u hu
    simp only [ptCells, List.mem_append] at hu
    rcases hu with hu | hu
    · simp [ptVals] at hu
      rcases hu with rfl | rfl | rfl | rfl | rfl | rfl | rfl | rfl <;> rfl
    · exact ih u hu
theorem infoPart : (Try.prog.info? 46).map (fun i => (i.zero, i.size, i.bytes)) = some (some (.agg #[.int .i64 0, .string ⟨#[]⟩, .string ⟨#[]⟩, .bool false, .int .i64 0, .int .u64 0, .int .u64 0, .slice none 0 0]), 8, 96) := by kernel_rfl
def pm0 : Pm := ⟨0, ⟨#[]⟩, ⟨#[]⟩, false, 0, 0, 0, none, 0, 0, fun _ => ⟨⟨#[]⟩, 0, 0, ⟨#[]⟩, false⟩⟩
def nthP (l : List Pm) (i : Nat) : Pm := l.getD i pm0
theorem nthP_get {l : List Pm} {i : Nat} (h : i < l.length) : l[i]? = some (nthP l i) := by
  unfold nthP; rw [List.getD, List.getElem?_eq_getElem h]; rfl
def firstP (P : Nat → Pm) (n : Nat) : List Pm := (List.range n).map P
theorem firstP_len (P : Nat → Pm) (n : Nat) : (firstP P n).length = n := by simp [firstP]
theorem firstP_nth (P : Nat → Pm) {n i : Nat} (h : i < n) : nthP (firstP P n) i = P i := by
  unfold nthP firstP
  rw [List.getD, List.getElem?_map, List.getElem?_range h]; rfl
/-- The cells of a part of an owned row. -/
theorem rowP_cells {w : World} {B g cap n : Nat} {l : List Pm} (h : w.ownsRow B 46 8 (.slice (some ⟨g, 0, none⟩) n cap) n (ptCells l)) {i : Nat} (hi : i < l.length) : w.cell? ⟨g, i * 8, none⟩ = some (.int .i64 (nthP l i).kind) ∧ w.cell? ⟨g, i * 8 + 1, none⟩ = some (.string (nthP l i).lo) ∧ w.cell? ⟨g, i * 8 + 2, none⟩ = some (.string (nthP l i).hi) ∧ w.cell? ⟨g, i * 8 + 3, none⟩ = some (.bool (nthP l i).op) ∧ w.cell? ⟨g, i * 8 + 4, none⟩ = some (.int .i64 (nthP l i).cnt) ∧ w.cell? ⟨g, i * 8 + 5, none⟩ = some (.int .u64 (nthP l i).s0) ∧ w.cell? ⟨g, i * 8 + 6, none⟩ = some (.int .u64 (nthP l i).s1) ∧ w.cell? ⟨g, i * 8 + 7, none⟩ = some (.slice (nthP l i).ea (nthP l i).el (nthP l i).ec) := by
  have hn : l.length = n := by have := h.1; rw [ptCells_length] at this; omega
  have e := nthP_get hi
  have c : ∀ r, r < 8 → w.cell? ⟨g, i * 8 + r, none⟩ = (ptVals (nthP l i))[r]? := fun r hr => by
    rw [h.cellAt (i * 8 + r) (by omega), ptCells_at l i r _ e hr]
  exact ⟨by simpa [ptVals] using c 0 (by omega), by simpa [ptVals] using c 1 (by omega), by simpa [ptVals] using c 2 (by omega), by simpa [ptVals] using c 3 (by omega), by simpa [ptVals] using c 4 (by omega), by simpa [ptVals] using c 5 (by omega), by simpa [ptVals] using c 6 (by omega), by simpa [ptVals] using c 7 (by omega)⟩
/-- An owned row as a list of parts in memory. -/
theorem parts_of_row {w : World} {B g cap n : Nat} {P : Nat → Pm} (h : w.ownsRow B 46 8 (.slice (some ⟨g, 0, none⟩) n cap) n (ptCells (firstP P n))) (hin : ∀ i, i < n → (P i).In w) : PartsIn w (some ⟨g, 0, none⟩) n cap P := by
  have hm := row_max h
  refine ⟨hm.1, hm.2, .inr ⟨g, 0, rfl, (h.lt g rfl).2, fun i hi => ⟨?_, hin i hi⟩⟩⟩
  have := rowP_cells h (i := i) (by rw [firstP_len]; exact hi)
  rw [firstP_nth P hi] at this
  simpa [PmAt] using this
end Go.Proofs.Ytbnppmkdhnpdfaa
namespace Go.Proofs.Ytbnppmkdhnpdfaa
open Go.RowKit
set_option linter.unusedVariables false
theorem own_two {w : World} {B B' : Nat} {e e' : TypeId} {s s' n n' : Nat} {v v' : Value} {xs xs' : List Value} (h : w.ownsRow B e s v n xs) (h' : w.ownsRow B' e' s' v' n' xs') (ht : e ≠ e') (k : Nat) (hk : v.ownBlock = some k) : ¬ v'.ownBlock = some k := by
  intro h1
  rcases h'.2 with ⟨h2, _⟩ | ⟨g, cap, cur, h2, h3, h4, h5⟩
  · rw [h2] at h1; cases h1
  · rw [h2] at h1
    have e1 : g = k := by simpa [Value.ownBlock] using h1
    subst e1
    exact own_nots h h4 ht hk
/-- A part in memory, as it was read. -/
def PmV (w : World) (B : Nat) (m : Pm) (v : PV) : Prop := m.kind = v.kind ∧ m.lo = v.lo ∧ m.hi = v.hi ∧ m.op = v.op ∧ m.cnt = v.cnt ∧ m.s0 = (v.s0 : Int) ∧ m.s1 = (v.s1 : Int) ∧ m.T = nthE v.es ∧ w.ownsRow B 50 5 (.slice m.ea m.el m.ec) m.el (entCells v.es)
/-- Parts in memory, as they were read: rows of their own, apart from one another. -/
structure RdF (w : World) (B : Nat) (a : Option Addr) (n c : Nat) (P : Nat → Pm) (vs : List PV) : Prop where
  row : w.ownsRow B 46 8 (.slice a n c) n (ptCells (firstP P n))
  len : vs.length = n
  ent : ∀ i v, vs[i]? = some v → PmV w B (P i) v
  apart : ∀ i j, i < n → j < n → i ≠ j → ∀ g, (P i).ea = some ⟨g, 0, none⟩ → (P j).ea ≠ some ⟨g, 0, none⟩
theorem RdF.keep {S : Nat → Prop} {w w' : World} {B n c : Nat} {a : Option Addr} {P : Nat → Pm} {vs : List PV} (h : RdF w B a n c P vs) (k : Keeps S w w') (hS : ∀ k, S k → ¬ B ≤ k) : RdF w' B a n c P vs :=
  ⟨ownsRow_keep h.row k (fun j hj x => hS j x (h.row.lt j hj).1), h.len, fun i v hv => by
    obtain ⟨h1, h2, h3, h4, h5, h6, h7, h8, h9⟩ := h.ent i v hv
    exact ⟨h1, h2, h3, h4, h5, h6, h7, h8, ownsRow_keep h9 k (fun j hj x => hS j x (h9.lt j hj).1)⟩, h.apart⟩
def PartsRd (w : World) (B : Nat) (a : Option Addr) (n c : Nat) (vs : List PV) : Prop := ∃ P, RdF w B a n c P vs
theorem RdF.nil (w : World) (B : Nat) (P : Nat → Pm) : RdF w B none 0 0 P [] :=
  ⟨⟨rfl, .inl ⟨rfl, rfl⟩⟩, rfl, fun i v hv => by simp at hv, fun i j hi => by omega⟩
/-- One part more. -/
def pAdd (P : Nat → Pm) (n : Nat) (p : Pm) : Nat → Pm := fun i => if i < n then P i else p
theorem pAdd_lt {P : Nat → Pm} {n : Nat} {p : Pm} {i : Nat} (h : i < n) : pAdd P n p i = P i := if_pos h
theorem pAdd_at {P : Nat → Pm} {n : Nat} {p : Pm} : pAdd P n p n = p := if_neg (Nat.lt_irrefl _)
theorem firstP_add (P : Nat → Pm) (n : Nat) (p : Pm) : firstP (pAdd P n p) (n + 1) = firstP P n ++ [p] := by
  unfold firstP
  rw [List.range_succ, List.map_append]
  congr 1
  · exact List.map_congr_left (fun i hi => pAdd_lt (List.mem_range.1 hi))
  · simp [pAdd_at]
theorem ptCells_one1 (e : Pm) : ptCells [e] = ptVals e := by simp [ptCells]
theorem op_append_part {w : World} {o : Oper} {act : Act} {K : Act → World → Prop} {Q : Exit → Act → World → Prop} (s x : Operand)
    (ho : o.op = .call { callee := .builtin .append, args := #[s, x], argTypes := #[24, 24] })
    (B n : Nat) (v : Value) (l : List Pm) (hs : act.eval s = v) (hown : w.ownsRow B 46 8 v n (ptCells l)) (b c : Nat) (e : Pm) (hx : act.eval x = .slice (some ⟨b, 0, none⟩) 1 c)
    (hb : w.heap[b]? = some (.cells #[.int .i64 e.kind, .string e.lo, .string e.hi, .bool e.op, .int .i64 e.cnt, .int .u64 e.s0, .int .u64 e.s1, .slice e.ea e.el e.ec] 46 (0, 0))) (hlen : (n + 1) * 96 ≤ 140737488351232) (hB : B ≤ w.heap.size)
    (h : ∀ g cap w', w'.ownsRow B 46 8 (.slice (some ⟨g, 0, none⟩) (n + 1) cap) (n + 1) (ptCells (l ++ [e])) → w.grownBy w' v.ownBlock → K (act.put o.dst (.slice (some ⟨g, 0, none⟩) (n + 1) cap)) w') : o.wp Try.prog act w K Q := by
  obtain ⟨i0, hi, hz0, hz1, hz2⟩ := info_parts infoPart
  refine wp_append_own w s x _ ho B 46 i0 _ 8 96 Try.underlying24 hi hz0 hz1 hz2 rfl (by decide) _ _ _ hs hown ⟨b, 0, none⟩ 1 c (ptVals e) hx rfl ?_ (fun u hu => ptCells_one [e] u (by rw [ptCells_one1]; exact hu)) (by unfold maxLen; omega) (by omega) hB ?_
  · exact World.news_of_block (cs := #[.int .i64 e.kind, .string e.lo, .string e.hi, .bool e.op, .int .i64 e.cnt, .int .u64 e.s0, .int .u64 e.s1, .slice e.ea e.el e.ec]) (t := 46) (fr := (0, 0)) hb
  · intro v' w' ho' hg _
    rw [show ptCells l ++ ptVals e = ptCells (l ++ [e]) from by rw [ptCells_append, ptCells_one1]] at ho'
    rcases ho'.2 with ⟨h1, h2⟩ | ⟨g, cap', cur, rfl, _⟩
    · omega
    · exact h g cap' w' ho' hg
/-- A part that was read joins the others. -/
theorem RdF.add {w w' : World} {B n c g cap : Nat} {a : Option Addr} {P : Nat → Pm} {vs : List PV} {m : Pm} {v : PV} (h : RdF w B a n c P vs) (hm : PmV w B m v) (hap : ∀ i, i < n → ∀ q, (P i).ea = some ⟨q, 0, none⟩ → m.ea ≠ some ⟨q, 0, none⟩)
    (hown : w'.ownsRow B 46 8 (.slice (some ⟨g, 0, none⟩) (n + 1) cap) (n + 1) (ptCells (firstP P n ++ [m]))) (hg : w.grownBy w' (Value.ownBlock (.slice a n c))) : RdF w' B (some ⟨g, 0, none⟩) (n + 1) cap (pAdd P n m) (vs ++ [v]) := by
  have kg := (Keeps.refl (fun x => Value.ownBlock (.slice a n c) = some x) w).grown hg (fun k hk _ => hk)
  have up : ∀ m v, PmV w B m v → PmV w' B m v := fun m v hm => by
    obtain ⟨h1, h2, h3, h4, h5, h6, h7, h8, h9⟩ := hm
    exact ⟨h1, h2, h3, h4, h5, h6, h7, h8, ownsRow_keep h9 kg (fun j hj x => own_two h9 h.row (by decide) j hj x)⟩
  refine ⟨by rw [firstP_add]; exact hown, by simp [h.len], fun i x hx => ?_, fun i j hi hj hne q hq => ?_⟩
  · by_cases hi : i < n
    · rw [pAdd_lt hi]
      rw [List.getElem?_append_left (by rw [h.len]; exact hi)] at hx
      exact up _ _ (h.ent i x hx)
    · rw [List.getElem?_append_right (by rw [h.len]; omega), h.len] at hx
      by_cases hi2 : i = n
      · subst hi2
        rw [pAdd_at]
        simp at hx
        subst hx
        exact up _ _ hm
      · rw [List.getElem?_eq_none (by simp; omega)] at hx
        cases hx
  · by_cases h1 : i < n
    · rw [pAdd_lt h1] at hq
      by_cases h2 : j < n
      · rw [pAdd_lt h2]; exact h.apart i j h1 h2 hne q hq
      · obtain rfl : j = n := by omega
        rw [pAdd_at]; exact hap i h1 q hq
    · obtain rfl : i = n := by omega
      rw [pAdd_at] at hq
      have h2 : j < i := by omega
      rw [pAdd_lt h2]
      exact fun e => hap j h2 q e hq
set_option maxRecDepth 100000 in
set_option maxHeartbeats 3200000 in
theorem rparts_at {br : Nat} {s : ByteArray} {l : List UInt8} {w : World} {p p' : Nat} {e e' : Int} {vs : List PV} (h : OneR br s l p e w) (hn : listSt l p e = (vs, p', e')) :
    Calls Try.prog 57 #[.agg #[.pointer (some ⟨br, 0, none⟩)], .int .i64 768, .func (.func 58) #[.agg #[.pointer (some ⟨br, 0, none⟩)]] #[]] w fun r w' => ∃ a n c, r = .returned (.slice a n c) ∧ PartsRd w' w.heap.size a n c vs ∧ OneR br s l p' e' w' ∧ Keeps (fun x => x = br) w w' := by
  obtain ⟨nn, p1, e1, h1⟩ : ∃ nn p1 e1, numSt l p e 768 = (nn, p1, e1) := ⟨_, _, _, rfl⟩
  have hT : partsSt l nn.toNat p1 e1 [] = (vs, p', e') := by rw [← hn]; unfold listSt; rw [h1]
  obtain ⟨hn0, hn1⟩ := numSt_most (by omega) h.le h1
  obtain ⟨N, rfl⟩ : ∃ N : Nat, nn = (N : Int) := ⟨nn.toNat, by omega⟩
  rw [Int.toNat_natCast] at hT
  have HT := aside hT
  have HNN := aside (show N ≤ 768 by omega)
  have hmx : (N : Int) ≤ 9223372036854775807 := by omega
  have C1 := aside (fun w (h : OneR br s l p e w) => one_num_at h1 h)
  clear hn h1 hT hn0 hn1
  have z0 := heap_alloc_new w (.cells #[.pointer (some ⟨br, 0, none⟩)] 72)
  have hk0 : Keeps (fun x => x = br) w (w.alloc (.cells #[.pointer (some ⟨br, 0, none⟩)] 72)) := (Keeps.refl (fun x => x = br) w).alloc (.cells #[.pointer (some ⟨br, 0, none⟩)] 72)
  have hr0 := h.keep ((Keeps.refl (fun _ => False) w).alloc (.cells #[.pointer (some ⟨br, 0, none⟩)] 72)) (fun h => h)
  have HBR := aside h.lt
  clear h
  have KB0 := aside z0
  have KK := aside hk0
  have RR := aside hr0
  clear hk0 hr0 z0
  go_enter Try.func57, Try.ntmps57
  go_wp2_with fail
  obtain ⟨i0, hi0⟩ : ∃ i0, w.heap.size = i0 := ⟨_, rfl⟩
  have HN := aside (show w.heap.size ≤ i0 ∧ br ≠ i0 from by have := HBR.out; omega)
  rw [hi0] at ⊢
  rw [hi0] at KB0
  clear hi0
  generalize w.alloc (.cells #[.pointer (some ⟨br, 0, none⟩)] 72) = X0 at KK RR KB0 ⊢
  refine (C1.out _ RR.out).mono ?_
  rintro r w1 ⟨rfl, R1, k1⟩
  replace KB0 := aside ((k1.block i0 (Array.getElem?_eq_some_iff.1 KB0.out).1 (fun h => by have := HN.out; omega)).trans KB0.out)
  replace KK := aside (KK.out.trans k1)
  replace RR := aside R1
  clear k1 R1
  have HSZ := aside (show w.heap.size ≤ i0 from HN.out.1)
  go_wp2
  go_loopw [7, 12] (fun v t wr => ∃ (j c q : Nat) (a : Option Addr) (f : Int) (acc : List PV) (P : Nat → Pm), v = .slice a j c ∧ t = .int .i64 (j : Int) ∧ j ≤ N ∧ Hid (RdF wr w.heap.size a j c P acc) ∧ Hid (OneR br s l q f wr) ∧ Hid (wr.heap[i0]? = some (.cells #[.pointer (some ⟨br, 0, none⟩)] 72 (0, 0))) ∧ Hid (Keeps (fun x => x = br) w wr) ∧ Hid (partsSt l (N - j) q f acc = (vs, p', e'))) (fun _ t _ => N - (intOf t).toNat)
  case atStart => exact ⟨0, 0, p1, none, e1, [], fun _ => pm0, rfl, rfl, Nat.zero_le _, RdF.nil _ _ _, RR.out, KB0.out, KK.out, HT.out⟩
  case round =>
    clear RR KB0 KK HT
    obtain ⟨j, c, q, a, f, acc, P, rfl, rfl, hj, OW, RR, KB0, KK, HT⟩ := hrel
    by_cases hlt : (j : Int) < (N : Int)
    · obtain ⟨m, hm⟩ : ∃ m, N - j = m + 1 := ⟨N - j - 1, by omega⟩
      rw [hm] at HT
      rcases hg : partSt l q f with ⟨⟨xk, xlo, xhi, xop, xc, xa, xb, xes⟩, q1, f1⟩
      have C2 := aside (fun w (h : OneR br s l q f w) => rpart_at h hg)
      have HG := aside hg
      have HM := aside hm
      have HJ := aside hj
      clear hg hm
      go_wp2_with fail
      refine (C2.out _ RR.out).mono ?_
      rintro r w2 ⟨ea, el, ec, rfl, OE, R1, k1⟩
      dsimp only at OE ⊢
      replace KB0 := aside ((k1.block i0 (Array.getElem?_eq_some_iff.1 KB0.out).1 (fun h => by have := HN.out; omega)).trans KB0.out)
      have HAP := aside (show ∀ i, i < j → ∀ q, (P i).ea = some ⟨q, 0, none⟩ → ea ≠ some ⟨q, 0, none⟩ from fun i hi q hq e => by
        obtain ⟨v, hv⟩ : ∃ v, acc[i]? = some v := ⟨_, List.getElem?_eq_getElem (by rw [OW.out.len]; exact hi)⟩
        have h1 := (OW.out.ent i v hv).2.2.2.2.2.2.2.2
        rw [hq] at h1
        have h2 := (h1.lt q rfl).2
        rw [e] at OE
        have h3 := (OE.lt q rfl).1
        omega)
      have HOE := aside (own_low OE KK.out.size)
      replace OW := aside (OW.out.keep k1 (fun k e h => by have := HBR.out; omega))
      replace KK := aside (KK.out.trans k1)
      replace RR := aside R1
      clear k1 R1 C2 OE
      have B2 := aside (bnew w2 (.cells #[.int .i64 xk, .string xlo, .string xhi, .bool xop, .int .i64 xc, .int .u64 (xa : Int), .int .u64 (xb : Int), .slice ea el ec] 46))
      have K2 := aside (heap_alloc_new w2 (.cells #[.int .i64 xk, .string xlo, .string xhi, .bool xop, .int .i64 xc, .int .u64 (xa : Int), .int .u64 (xb : Int), .slice ea el ec] 46))
      replace KB0 := aside (blk_on KB0.out B2.out)
      replace OW := aside (OW.out.keep (Keeps.of_below B2.out (fun _ => False)) (fun k h => h.elim))
      replace HOE := aside (own_on HOE.out B2.out)
      replace RR := aside (RR.out.keep (Keeps.of_below B2.out (fun _ => False)) (fun h => h))
      replace KK := aside (KK.out.trans (Keeps.of_below B2.out _))
      have HWS := aside (show w.heap.size ≤ w2.heap.size + 1 from by have := KK.out.size; rw [World.size_alloc] at this; exact this)
      go_wp2_with (at_builtin; refine wpList_plain rfl fun K hK => op_append_part _ _ rfl w.heap.size j (.slice a j c) (firstP P j) (by rfl) OW.out.row w2.heap.size 1 ⟨xk, xlo, xhi, xop, xc, (xa : Int), (xb : Int), ea, el, ec, nthE xes⟩ (by rfl) K2.out (by have h2 := HJ.out; have h3 := HNN.out; omega) (by rw [World.size_alloc]; exact HWS.out) ?_; intro g cap w3 own3 gr3; refine hK _ _ ?_; refine Hid.out ?_)
      refine aside ?_
      have kg := (Keeps.refl (fun x => Value.ownBlock (.slice a j c) = some x) _).grown gr3 (fun k hk _ => hk)
      replace KB0 := aside ((kg.block i0 (Array.getElem?_eq_some_iff.1 KB0.out).1 (own_nots OW.out.row KB0.out (by decide))).trans KB0.out)
      replace RR := aside (RR.out.keep kg (fun h => by have h1 := (OW.out.row.lt br h).1; have := HBR.out; omega))
      replace KK := aside (KK.out.grown gr3 (fun k hk h => by have := (OW.out.row.lt k hk).1; omega))
      replace OW := aside (OW.out.add (v := ⟨xk, xlo, xhi, xop, xc, xa, xb, xes⟩) ⟨rfl, rfl, rfl, rfl, rfl, rfl, rfl, rfl, HOE.out⟩ HAP.out own3 gr3)
      clear kg gr3 own3 B2 K2 HWS HAP HOE
      have c0_0 : w3.cell? ⟨i0, 0, none⟩ = some (.pointer (some ⟨br, 0, none⟩)) := by rw [cell_of_row _ _ 0 _ _ _ KB0.out]; rfl
      go_wp2_with fail
      refine (one_err_at RR.out).mono ?_
      rintro r w4 ⟨rfl, hw4⟩
      subst hw4
      by_cases hf : f1 = 0
      · subst hf
        go_wp2
        go_roundw
        case rel => exact ⟨j + 1, cap, q1, some ⟨g, 0, none⟩, 0, acc ++ [PV.mk xk xlo xhi xop xc xa xb xes], _, rfl, by go_num, by omega, OW.out, RR.out, KB0.out, KK.out, by rw [show N - (j + 1) = m by have := HM.out; omega]; exact (partsSt_step HG.out).symm.trans HT.out⟩
        case measure => simp [intOf]; omega
      · have hf2 : (f1 != 0) = true := by simpa using hf
        have HE := aside (show ([], q1, f1) = (vs, p', e') from by rw [← HT.out, partsSt_stop HG.out hf])
        go_wp2
        go_ret
        have := HE.out
        simp only [Prod.mk.injEq] at this
        obtain ⟨rfl, rfl, rfl⟩ := this
        exact ⟨none, 0, 0, rfl, ⟨P, RdF.nil _ _ _⟩, RR.out, KK.out⟩
    · have HE := aside (show (acc, q, f) = (vs, p', e') from by rw [← HT.out, show N - j = 0 by omega]; rfl)
      go_wp2
      go_ret
      have := HE.out
      simp only [Prod.mk.injEq] at this
      obtain ⟨rfl, rfl, rfl⟩ := this
      exact ⟨a, j, c, rfl, ⟨P, OW.out⟩, RR.out, KK.out⟩
end Go.Proofs.Ytbnppmkdhnpdfaa
namespace Go.Proofs.Ytbnppmkdhnpdfaa
open Go.RowKit
set_option linter.unusedVariables false
/-- The bytes of a word from the place i on, n of them. -/
def wordFrom (u : Nat) : Nat → Nat → List UInt8
  | _, 0 => []
  | i, n + 1 => UInt8.ofNat (u / 2 ^ (8 * (7 - i))) :: wordFrom u (i + 1) n
def wordB (u : Nat) : List UInt8 := wordFrom u 0 8
def WordRel (T B b : Nat) (g : Option Nat) (l : List UInt8) (u : Nat) (w : World) (i : Value) (wr : World) : Prop :=
  ∃ (k : Nat) (pre : List UInt8) (g' : Option Nat), i = .int .i64 (k : Int) ∧ k ≤ 8 ∧ pre.length = k ∧ pre ++ wordFrom u k (8 - k) = wordB u ∧ IsW T B b g' (l ++ pre) wr ∧ Fresh w g g' ∧ Keeps (fun j => j = b ∨ g = some j) w wr
/-- One byte of a word, in the walk's own spelling. -/
theorem word_cell (u k : Nat) (hk : (k : Int) < 8) : Lib.byteCells [UInt8.ofNat (u / 2 ^ (8 * (7 - k)))] = [.int .u8 (IntKind.u8.wrap ((u : Int) / 2 ^ (8 * (7 - (k : Int))).toNat))] := by
  rw [show (8 * (7 - (k : Int))).toNat = 8 * (7 - k) from by omega, IntKind.wrap_u8]
  simp only [Lib.byteCells, List.map_cons, List.map_nil, UInt8.toNat_ofNat']
  congr 2
theorem wordFrom_step (u k : Nat) (hk : k < 8) : wordFrom u k (8 - k) = UInt8.ofNat (u / 2 ^ (8 * (7 - k))) :: wordFrom u (k + 1) (8 - (k + 1)) := by
  rw [show 8 - k = (8 - (k + 1)) + 1 from by omega]; rfl
theorem undrew {x w1 : World} {r : Option Nat} (h : x.drew.grownBy w1 r) : x.grownBy w1 r := ⟨h.os, h.tape, h.output, h.size, h.block⟩
set_option maxHeartbeats 3200000 in
set_option maxRecDepth 100000 in
theorem wword_any (B b : Nat) (g : Option Nat) (l : List UInt8) (u : Nat) (w : World) (hW : IsW 86 B b g l w) (hB : B ≤ w.heap.size) (hu : u < 18446744073709551616) (hl : l.length ≤ 35184372088832) :
    Calls Try.prog 73 #[.pointer (some ⟨b, 0, none⟩), .int .u64 (u : Int)] w fun e w' => e = .returned (.tuple #[]) ∧
      ∃ g', IsW 86 B b g' (l ++ wordB u) w' ∧ Fresh w g g' ∧ Keeps (fun k => k = b ∨ g = some k) w w' := by
  obtain ⟨i0, hi, hz0, hz1, hz2⟩ := info_parts info8
  have HU := aside hu
  clear hu
  go_enter Try.func73, Try.ntmps73
  go_wp2
  go_loopw [5] (fun i wr => WordRel 86 B b g l u w i wr) (fun i _ => 8 - (intOf i).toNat)
  case atStart => exact ⟨0, [], g, rfl, by omega, rfl, rfl, by simpa using hW, .inl rfl, Keeps.refl _ _⟩
  case round =>
    obtain ⟨k, pre, g', rfl, hk8, hpk, hpre, ⟨hBb, hgb, v, hh, rfl, hown⟩, hfr, hk⟩ := hrel
    have HP := aside hpre
    have HPK := aside hpk
    have hll : (l ++ pre).length ≤ l.length + 8 := by rw [List.length_append]; omega
    generalize hL : l ++ pre = L at *
    have HL := aside hL
    have hsz := hk.size
    have hk8' : (k : Int) ≤ 8 := by omega
    clear hpre hpk hL hk8
    have hc := cell_one hh
    have hf := frozen_one hh
    by_cases hlt : (k : Int) < 8
    · have hw1 : IntKind.i64.wrap (7 - (k : Int)) = 7 - (k : Int) := by rw [IntKind.wrap_i64]; omega
      have hw2 : IntKind.i64.wrap (8 * (7 - (k : Int))) = 8 * (7 - (k : Int)) := by rw [IntKind.wrap_i64]; omega
      have hblt := World.block_lt_of_cell? wr _ hc
      have hne := World.new_ne wr ⟨b, 0, none⟩ hc
      go_wp2_with fail
      have hca : ∀ o, (wr.alloc o).cell? ⟨b, 0, none⟩ = some v := fun o => (World.cell?_alloc_past _ _ _ hblt).trans hc
      go_region_law (refine step_append_lies _ (by rfl) _ _ _ (by rfl) B 5 i0 (.int .u8 0) 1 1 Try.underlying30 hi hz0 hz1 hz2 rfl (by decide) _ _ _ (by rfl) ((hown.alloc _).drew) ⟨wr.heap.size, 0, none⟩ 1 1 [.int .u8 (IntKind.u8.wrap ((u : Int) / 2 ^ (8 * (7 - (k : Int))).toNat))] (by rfl) (by rfl) (World.news_of_block (cs := #[.int .u8 (IntKind.u8.wrap ((u : Int) / 2 ^ (8 * (7 - (k : Int))).toNat))]) (t := 5) (fr := (0, 0)) (heap_alloc_new wr _)) (by simp [Value.oneCell']) (by omega) (by unfold maxLen; omega) (by omega) (by simp; omega) (wr.heap.size + 1) (by simp) ?_; intro g1 cap w1 hown1 hgrow hat hlt1; have hb1 := block_grown hh hgb (undrew hgrow); have hc1 := cell_one hb1; have hf1 := frozen_one hb1)
      all_goals
        have R := app_done (l := L) (n := L.length + 1) (news := [UInt8.ofNat (u / 2 ^ (8 * (7 - k)))]) hBb hh hgb rfl (undrew hgrow) (by rw [word_cell u k hlt]; exact hown1) hat
        have HR := aside R
        clear hown hown1 hgrow hat R hc hf hh hca hw1 hw2
        go_wp2
        go_roundw
        case rel => exact ⟨k + 1, pre ++ [UInt8.ofNat (u / 2 ^ (8 * (7 - k)))], _, by go_num, by omega, by rw [List.length_append, HPK.out]; rfl, by rw [← HP.out, wordFrom_step u k (by omega)]; simp, HR.out.1.of_len (by rw [← HL.out, List.append_assoc]), hfr.trans HR.out.2.1 hsz, hk.step hfr HR.out.2.2⟩
        case measure => simp [intOf]; omega
    · have hk8e : k = 8 := by omega
      have hfin : l ++ wordB u = L := by rw [← HP.out, hk8e]; simpa [wordFrom] using HL.out
      have HW : Hid (IsW 86 B b v.ownBlock L wr) := ⟨hBb, hgb, v, hh, rfl, hown⟩
      have HFN := aside hfin
      clear hk8e hfin hh hown hc hf
      go_wp2
      go_end0
      exact ⟨rfl, _, HW.out.of_len HFN.out.symm, hfr, hk⟩
end Go.Proofs.Ytbnppmkdhnpdfaa
namespace Go.Proofs.Ytbnppmkdhnpdfaa
open Go.RowKit
set_option linter.unusedVariables false
def strB (s : ByteArray) : List UInt8 := Nm.enc 8 s.size ++ s.data.toList
def rgB (lo hi : ByteArray) (op : Bool) : List UInt8 := strB lo ++ (flagB op ++ (bif op then [] else strB hi))
def esB : List En → List UInt8
  | [] => []
  | e :: r => entB e ++ esB r
def partB (v : PV) : List UInt8 := Nm.enc 8 (up v.kind) ++ (rgB v.lo v.hi v.op ++ (if v.kind = 1 then Nm.enc 8 (up v.cnt) ++ (wordB v.s0 ++ wordB v.s1) else Nm.enc 8 v.es.length ++ esB v.es))
def psB : List PV → List UInt8
  | [] => []
  | e :: r => partB e ++ psB r
def frameB (F : FV) : List UInt8 := Nm.enc 8 (up F.fr) ++ (Nm.enc 8 (up F.tz) ++ (Nm.enc 8 (up F.o) ++ (Nm.enc 8 (up F.l) ++ (Nm.enc 8 (up F.n) ++ (Nm.enc 8 (up F.tn) ++ (Nm.enc 8 F.ps.length ++ psB F.ps))))))
theorem esB_append : ∀ a b : List En, esB (a ++ b) = esB a ++ esB b
  | [], _ => rfl
  | e :: r, b => by simp [esB, esB_append r b, List.append_assoc]
theorem psB_append : ∀ a b : List PV, psB (a ++ b) = psB a ++ psB b
  | [], _ => rfl
  | e :: r, b => by simp [psB, psB_append r b, List.append_assoc]
/-- A part whose bytes can be read again. -/
structure PVok (v : PV) : Prop where
  kind : v.kind = 1 ∨ v.kind = 2 ∨ v.kind = 3
  lo : v.lo.size ≤ 16
  hi : v.hi.size ≤ 16
  op : v.op = true → v.hi = ⟨#[]⟩
  print : v.kind = 1 → v.es = [] ∧ 0 ≤ v.cnt ∧ v.cnt ≤ 256 ∧ v.s0 < 18446744073709551616 ∧ v.s1 < 18446744073709551616
  items : v.kind ≠ 1 → v.cnt = 0 ∧ v.s0 = 0 ∧ v.s1 = 0 ∧ v.es.length ≤ 256 ∧ ∀ e ∈ v.es, e.chk = 0
structure FVok (F : FV) : Prop where
  fr : 0 ≤ F.fr ∧ F.fr ≤ 7
  tz : 0 ≤ F.tz ∧ F.tz ≤ 7
  o : 0 ≤ F.o ∧ F.o ≤ 7
  l : 0 ≤ F.l ∧ F.l ≤ 1048576
  n : 0 ≤ F.n ∧ F.n ≤ 1048576
  tn : 0 ≤ F.tn ∧ F.tn ≤ 63
  len : F.ps.length ≤ 768
  ps : ∀ v ∈ F.ps, PVok v
theorem bsize (t : List UInt8) : (⟨t.toArray⟩ : ByteArray).size = t.length := by show t.toArray.size = t.length; simp
theorem bback (k : ByteArray) : (⟨k.data.toList.toArray⟩ : ByteArray) = k := by cases k; simp
theorem blen (k : ByteArray) : k.data.toList.length = k.size := by show k.data.toList.length = k.data.size; simp
theorem strB_text (t : List UInt8) : strB ⟨t.toArray⟩ = Nm.enc 8 t.length ++ t := by unfold strB; rw [bsize]
theorem upN (m : Nat) : up (m : Int) = m := by unfold up; omega
theorem upI {n : Int} (h : 0 ≤ n) : ((up n : Nat) : Int) = n := by unfold up; omega
theorem get_inv_at {l : List UInt8} {R : En} {p0 p : Nat} (hp0 : p0 ≤ l.length) (h : getSt l p0 0 = (R, p, 0)) : R.chk = 0 ∧ l.drop p0 = entB R ++ l.drop p ∧ p ≤ l.length := by
  rcases h1 : textSt l p0 0 16 with ⟨tk, p1, e1⟩
  rcases h2 : numSt l p1 e1 1099511627776 with ⟨c, p2, e2⟩
  rcases h3 : numSt l p2 e2 7 with ⟨n, p3, e3⟩
  rcases h4 : flagSt l p3 e3 with ⟨d, p4, e4⟩
  rw [getSt_eq h1 h2 h3 h4] at h
  have key : ∀ (e4z : e4 = 0), ∃ cm nm : Nat, c = (cm : Int) ∧ n = (nm : Int) ∧ (cm : Int) ≤ 1099511627776 ∧ (nm : Int) ≤ 7 ∧ (tk.length : Int) ≤ 16 ∧ p4 ≤ l.length ∧
      l.drop p0 = (Nm.enc 8 tk.length ++ tk) ++ (Nm.enc 8 cm ++ (Nm.enc 8 nm ++ (flagB d ++ l.drop p4))) := by
    intro e4z
    subst e4z
    obtain rfl := flag_err h4
    obtain rfl := num_err h3
    obtain rfl := num_err h2
    obtain ⟨a1, a2, a3⟩ := text_inv hp0 h1
    obtain ⟨cm, b1, b2, b3, b4⟩ := num_inv a3 h2
    obtain ⟨nm, c1, c2, c3, c4⟩ := num_inv b4 h3
    obtain ⟨d1, d2⟩ := flag_inv h4
    refine ⟨cm, nm, b1, c1, b2, c2, a2, d2, ?_⟩
    rw [← d1, ← c3, ← b3, ← a1]
  have hkt : ∀ t : List UInt8, (⟨t.toArray⟩ : ByteArray).size = t.length := fun t => by show t.toArray.size = t.length; simp
  have hkd : ∀ t : List UInt8, (⟨t.toArray⟩ : ByteArray).data.toList = t := fun t => by simp
  cases d
  · rcases h5 : textSt l p4 e4 32 with ⟨tv, p5, e5⟩
    simp only [getFin] at h
    rw [h5] at h
    simp only at h
    by_cases hc : c = 0
    · rw [if_pos hc] at h
      simp only [Prod.mk.injEq] at h
      have := failOf_ne e5
      rw [h.2.2] at this
      simp at this
    · rw [if_neg hc] at h
      by_cases he : e5 = 0
      · rw [if_pos he] at h
        subst he
        obtain rfl := text_err h5
        obtain ⟨cm, nm, r1, r2, r3, r4, r5, r6, r7⟩ := key rfl
        obtain ⟨v1, v2, v3⟩ := text_inv r6 h5
        simp only [Prod.mk.injEq] at h
        obtain ⟨rfl, rfl, _⟩ := h
        refine ⟨?_, ?_, v3⟩
        · rw [En.chk_rest false (by rw [hkt]; omega) (chk_ok (by omega) (by omega) (by omega) (by omega)) (by rw [hkt]; omega)]
          rfl
        · simp only [entB, cond, hkt]
          rw [show up c = cm from by rw [r1]; unfold up; omega, show up n = nm from by rw [r2]; unfold up; omega]
          have e0 := r7
          rw [v1] at e0
          rw [List.append_assoc, List.append_assoc, List.append_assoc, List.append_assoc]
          simpa [List.append_assoc] using e0
      · rw [if_neg he] at h
        simp only [Prod.mk.injEq] at h
        exact absurd h.2.2 he
  · simp only [getFin] at h
    by_cases hc : c = 0
    · rw [if_pos hc] at h
      simp only [Prod.mk.injEq] at h
      have := failOf_ne e4
      rw [h.2.2] at this
      simp at this
    · rw [if_neg hc] at h
      by_cases he : e4 = 0
      · rw [if_pos he] at h
        obtain ⟨cm, nm, r1, r2, r3, r4, r5, r6, r7⟩ := key he
        simp only [Prod.mk.injEq] at h
        obtain ⟨rfl, rfl, _⟩ := h
        refine ⟨?_, ?_, r6⟩
        · rw [En.chk_rest true (by rw [hkt]; omega) (chk_ok (by omega) (by omega) (by omega) (by omega)) (by decide)]
          rw [show (⟨#[]⟩ : ByteArray).toList = [] from ByteArray.toList_mk []]
          rfl
        · simp only [entB, cond, hkt]
          rw [show up c = cm from by rw [r1]; unfold up; omega, show up n = nm from by rw [r2]; unfold up; omega]
          simpa [List.append_assoc] using r7
      · rw [if_neg he] at h
        simp only [Prod.mk.injEq] at h
        exact absurd h.2.2 he
theorem get_put_at {l rest : List UInt8} {p : Nat} (e : En) (h : e.chk = 0) (hd : l.drop p = entB e ++ rest) : getSt l p 0 = (e, p + (entB e).length, 0) := by
  obtain ⟨k, c, n, v, d⟩ := e
  obtain ⟨hk, hc1, hc2, hn1, hn2, hv⟩ := En.ok_parts h
  have hkl := blen k
  have hvl := blen v
  have hcu : ((up c : Nat) : Int) = c := by unfold up; omega
  have hnu : ((up n : Nat) : Int) = n := by unfold up; omega
  obtain ⟨X, hX⟩ : ∃ X, X = (bif d then [] else Nm.enc 8 v.size ++ v.data.toList) := ⟨_, rfl⟩
  have hE : entB ⟨k, c, n, v, d⟩ = (Nm.enc 8 k.data.toList.length ++ k.data.toList) ++ (Nm.enc 8 (up c) ++ (Nm.enc 8 (up n) ++ (flagB d ++ X))) := by
    rw [hX, hkl]; simp [entB, List.append_assoc]
  have h0 : l.drop p = (Nm.enc 8 k.data.toList.length ++ k.data.toList) ++ (Nm.enc 8 (up c) ++ (Nm.enc 8 (up n) ++ (flagB d ++ (X ++ rest)))) := by
    rw [hd, hE]; simp [List.append_assoc]
  have t1 := text_put (most := 16) h0 (by omega) (by omega)
  have h1 := drop_more h0
  have t2 := num_put (most := 1099511627776) h1 (by omega) (by omega)
  have h2 := drop_more h1
  have t3 := num_put (most := 7) h2 (by omega) (by omega)
  have h3 := drop_more h2
  have t4 := flag_put h3
  have h4 := drop_more h3
  rw [show (flagB d).length = 1 from rfl] at h4
  have ek := bback k
  have hL : (entB ⟨k, c, n, v, d⟩).length = (Nm.enc 8 k.data.toList.length ++ k.data.toList).length + (Nm.enc 8 (up c)).length + (Nm.enc 8 (up n)).length + 1 + X.length := by
    rw [hE]; simp only [List.length_append, show (flagB d).length = 1 from rfl]; omega
  rw [getSt_eq t1 t2 t3 t4, hcu, hnu]
  have hc0 : ¬ c = 0 := by omega
  cases d
  · simp only [cond] at hX
    have h4' := h4.trans (show X ++ rest = (Nm.enc 8 v.data.toList.length ++ v.data.toList) ++ rest from by rw [hvl, hX])
    have t5 := text_put (most := 32) h4' (by omega) (by omega)
    have h5' : (Nm.enc 8 v.data.toList.length ++ v.data.toList).length = X.length := by rw [hX, hvl]
    simp only [getFin]
    rw [t5]
    simp only
    rw [if_neg hc0, ek, bback v]
    simp only [if_true, Prod.mk.injEq, true_and, and_true]
    omega
  · simp only [cond] at hX
    have hv0 : v = ⟨#[]⟩ := by
      have hh := h
      rw [En.chk_rest true (by omega) (chk_ok (by omega) (by omega) (by omega) (by omega)) (by omega)] at hh
      have : v.toList.isEmpty = true := by
        cases hE : v.toList.isEmpty
        · rw [hE] at hh; simp at hh
        · rfl
      rw [ByteArray.toList_eq] at this
      obtain ⟨⟨x⟩⟩ := v
      simp at this
      rw [this]
    subst hv0
    rw [hX] at hL
    simp only [List.length_nil] at hL
    simp only [getFin]
    rw [if_neg hc0, ek]
    simp only [if_true, Prod.mk.injEq, true_and, and_true]
    omega
/-! Words. -/
theorem word_val (x : List UInt8) (h : x.length = 8) : wordB (valB x) = x := by
  match x, h with
  | [a, b, c, d, e, f, g, i], _ =>
    have ha := a.toNat_lt; have hb := b.toNat_lt; have hc := c.toNat_lt; have hd := d.toNat_lt
    have he := e.toNat_lt; have hf := f.toNat_lt; have hg := g.toNat_lt; have hi := i.toNat_lt
    obtain ⟨V, hV⟩ : ∃ V, valB [a, b, c, d, e, f, g, i] = V := ⟨_, rfl⟩
    have hV2 : V = ((((((a.toNat * 256 + b.toNat) * 256 + c.toNat) * 256 + d.toNat) * 256 + e.toNat) * 256 + f.toNat) * 256 + g.toNat) * 256 + i.toNat := by rw [← hV]; simp [valB]
    rw [hV]
    have q : ∀ (y : UInt8) (m : Nat), m % 256 = y.toNat → UInt8.ofNat m = y := fun y m h => by
      apply UInt8.toNat_inj.1
      rw [UInt8.toNat_ofNat']
      exact h
    simp only [wordB, wordFrom]
    rw [q a (V / 2 ^ (8 * (7 - 0))) (by simp only [Nat.reduceSub, Nat.reduceMul, Nat.reducePow]; omega), q b (V / 2 ^ (8 * (7 - (0 + 1)))) (by simp only [Nat.reduceSub, Nat.reduceMul, Nat.reducePow, Nat.reduceAdd]; omega), q c (V / 2 ^ (8 * (7 - (0 + 1 + 1)))) (by simp only [Nat.reduceSub, Nat.reduceMul, Nat.reducePow, Nat.reduceAdd]; omega), q d (V / 2 ^ (8 * (7 - (0 + 1 + 1 + 1)))) (by simp only [Nat.reduceSub, Nat.reduceMul, Nat.reducePow, Nat.reduceAdd]; omega), q e (V / 2 ^ (8 * (7 - (0 + 1 + 1 + 1 + 1)))) (by simp only [Nat.reduceSub, Nat.reduceMul, Nat.reducePow, Nat.reduceAdd]; omega), q f (V / 2 ^ (8 * (7 - (0 + 1 + 1 + 1 + 1 + 1)))) (by simp only [Nat.reduceSub, Nat.reduceMul, Nat.reducePow, Nat.reduceAdd]; omega), q g (V / 2 ^ (8 * (7 - (0 + 1 + 1 + 1 + 1 + 1 + 1)))) (by simp only [Nat.reduceSub, Nat.reduceMul, Nat.reducePow, Nat.reduceAdd]; omega), q i (V / 2 ^ (8 * (7 - (0 + 1 + 1 + 1 + 1 + 1 + 1 + 1)))) (by simp only [Nat.reduceSub, Nat.reduceMul, Nat.reducePow, Nat.reduceAdd]; omega)]
end Go.Proofs.Ytbnppmkdhnpdfaa

/-
  Check: the document's own.
-/
import Derived.Test.YtgfblndmblgeeaaFdC
namespace Go.Proofs.Ytgfblndmblgeeaa
open Go.RowKit
set_option linter.unusedVariables false
set_option maxHeartbeats 400000 in
theorem endR_any (n : Int) (w : World) : Calls Try.prog 38 #[.int .i64 n] w fun e w' => e = .returned (.bool (nodeB n)) ∧ w' = w := by
  by_cases h1 : n < 0
  · have h0 : ¬ 0 ≤ n := by omega
    go_enter Try.func38, Try.ntmps38
    go_wp2
    go_ret
    exact ⟨ret_bool (node_no1 (by omega)).symm, rfl⟩
  · have h0 : 0 ≤ n := by omega
    by_cases h2 : 8 ≤ n
    · have h3 : ¬ n < 8 := by omega
      go_enter Try.func38, Try.ntmps38
      go_wp2
      go_ret
      exact ⟨ret_bool (node_no2 (by omega)).symm, rfl⟩
    · have h3 : n < 8 := by omega
      go_enter Try.func38, Try.ntmps38
      go_wp2
      go_ret
      exact ⟨ret_bool (node_yes (by omega) (by omega)).symm, rfl⟩
theorem endR_at {n : Int} {q : Bool} (h : nodeB n = q) (w : World) : Calls Try.prog 38 #[.int .i64 n] w fun e w' => e = .returned (.bool q) ∧ w' = w := by
  subst h; exact endR_any n w
theorem partsR_of {a : Option Addr} {len cap : Nat} {P : Nat → Pm} {w : World} (h : PartsIn w a len cap P) {q : Int} (hq : psChk P len = q) :
    Calls Try.prog 15 #[.slice a len cap] w fun e w' => e = .returned (.int .i64 q) ∧ Below w.heap.size w w' := by
  subst hq; exact partsR_any a len cap P w h
theorem rg_ne_run (lo hi : ByteArray) (op : Bool) (lo' hi' : ByteArray) (op' : Bool) (w : World) : (binOp .neq 43 (.agg #[.string lo, .string hi, .bool op]) (.agg #[.string lo', .string hi', .bool op'])).run Try.prog w = .ok (.bool (!(lo.toList == lo'.toList && (hi.toList == hi'.toList && op == op')))) w := by
  rw [run_neq_struct, show (10000 : Nat) = 9999 + 1 from rfl]
  go_simp
  cases h1 : (lo.toList == lo'.toList) <;> cases h2 : (hi.toList == hi'.toList) <;> cases op <;> cases op' <;> simp_all
set_option maxHeartbeats 12800000 in
set_option maxRecDepth 100000 in
theorem chkR_any (fr tz o l n tn : Int) (a : Option Addr) (len cap : Nat) (P : Nat → Pm) (w : World) (h : PartsIn w a len cap P) :
    Calls Try.prog 13 #[.agg #[.int .i64 fr, .int .i64 tz, .int .i64 o, .int .i64 l, .int .i64 n, .int .i64 tn, .slice a len cap]] w fun e w' => e = .returned (.int .i64 (fChk fr tz o l n tn P len)) ∧ Below w.heap.size w w' := by
  obtain ⟨q2, hq2⟩ : ∃ q, Nm.chk o l n = q := ⟨_, rfl⟩
  obtain ⟨q4, hq4⟩ : ∃ q, psChk P len = q := ⟨_, rfl⟩
  have C2 := aside (fun W => nchkR_at hq2 W)
  have C4 := aside (fun W (bb : Below w.heap.size w W) => partsR_of (h.keep bb) hq4)
  have H2 := aside hq2
  have H4 := aside hq4
  have HE := aside h
  clear hq2 hq4 h
  go_enter Try.func13, Try.ntmps13
  go_upto_region 2 with fail
  have BX := aside (bnew w (.cells #[.int .i64 fr, .int .i64 tz, .int .i64 o, .int .i64 l, .int .i64 n, .int .i64 tn, .slice a len cap] 26))
  have KX := aside (heap_alloc_new w (.cells #[.int .i64 fr, .int .i64 tz, .int .i64 o, .int .i64 l, .int .i64 n, .int .i64 tn, .slice a len cap] 26))
  generalize w.alloc (.cells #[.int .i64 fr, .int .i64 tz, .int .i64 o, .int .i64 l, .int .i64 n, .int .i64 tn, .slice a len cap] 26) = X0 at BX KX ⊢
  have SX := aside (fun W (bb : Below X0.heap.size X0 W) => (show W.cell? ⟨w.heap.size, 0, none⟩ = some (.int .i64 fr) ∧ W.cell? ⟨w.heap.size, 1, none⟩ = some (.int .i64 tz) ∧ W.cell? ⟨w.heap.size, 2, none⟩ = some (.int .i64 o) ∧ W.cell? ⟨w.heap.size, 3, none⟩ = some (.int .i64 l) ∧ W.cell? ⟨w.heap.size, 4, none⟩ = some (.int .i64 n) ∧ W.cell? ⟨w.heap.size, 5, none⟩ = some (.int .i64 tn) ∧ W.cell? ⟨w.heap.size, 6, none⟩ = some (.slice a len cap) from sep7 (blk_on KX.out bb)))
  obtain ⟨f0, f1, f2, f3, f4, f5, f6⟩ := SX.out _ (Below.refl _ X0)
  go_cut [36] (fun s9 wx => s9 = .bool (!endsB fr tz o) ∧ Below X0.heap.size X0 wx)
  case first =>
    cases h1 : nodeB fr
    · have H1 := aside h1
      clear h1
      go_wp2_with fail
      refine (endR_at H1.out _).mono ?_
      rintro e w9 ⟨rfl, rfl⟩
      go_wp2
      go_meet
      exact ⟨by rw [show endsB fr tz o = false from by unfold endsB; rw [H1.out]; rfl]; rfl, Below.refl _ _⟩
    · have H1 := aside h1
      clear h1
      cases h2 : nodeB tz
      · have H2' := aside h2
        clear h2
        go_wp2_with fail
        refine (endR_at H1.out _).mono ?_
        rintro e w9 ⟨rfl, rfl⟩
        go_wp2_with fail
        refine (endR_at H2'.out _).mono ?_
        rintro e w9 ⟨rfl, rfl⟩
        go_wp2
        go_meet
        exact ⟨by rw [show endsB fr tz o = false from by unfold endsB; rw [H1.out, H2'.out]; rfl]; rfl, Below.refl _ _⟩
      · have H2' := aside h2
        clear h2
        by_cases h3 : fr = tz
        · subst h3
          go_wp2_with fail
          refine (endR_at H1.out _).mono ?_
          rintro e w9 ⟨rfl, rfl⟩
          go_wp2_with fail
          refine (endR_at H2'.out _).mono ?_
          rintro e w9 ⟨rfl, rfl⟩
          go_wp2
          go_meet
          exact ⟨by rw [show endsB fr fr o = false from by unfold endsB; rw [beq_self_eq_true]; simp]; rfl, Below.refl _ _⟩
        · have b3 : (fr == tz) = false := by simpa using h3
          have H3 := aside b3
          by_cases h4 : o = fr
          · subst h4
            go_wp2_with fail
            refine (endR_at H1.out _).mono ?_
            rintro e w9 ⟨rfl, rfl⟩
            go_wp2_with fail
            refine (endR_at H2'.out _).mono ?_
            rintro e w9 ⟨rfl, rfl⟩
            go_wp2
            go_meet
            exact ⟨by rw [show endsB o tz o = true from by unfold endsB; rw [H1.out, H2'.out, H3.out, beq_self_eq_true]; rfl]; rfl, Below.refl _ _⟩
          · have b4 : (o == fr) = false := by simpa using h4
            have H4' := aside b4
            by_cases h5 : o = tz
            · subst h5
              go_wp2_with fail
              refine (endR_at H1.out _).mono ?_
              rintro e w9 ⟨rfl, rfl⟩
              go_wp2_with fail
              refine (endR_at H2'.out _).mono ?_
              rintro e w9 ⟨rfl, rfl⟩
              go_wp2
              go_meet
              exact ⟨by rw [show endsB fr o o = true from by unfold endsB; rw [H1.out, H2'.out, H3.out, H4'.out, beq_self_eq_true]; rfl]; rfl, Below.refl _ _⟩
            · have b5 : (o == tz) = false := by simpa using h5
              have H5' := aside b5
              go_wp2_with fail
              refine (endR_at H1.out _).mono ?_
              rintro e w9 ⟨rfl, rfl⟩
              go_wp2_with fail
              refine (endR_at H2'.out _).mono ?_
              rintro e w9 ⟨rfl, rfl⟩
              go_wp2
              go_meet
              exact ⟨by rw [show endsB fr tz o = false from by unfold endsB; rw [H1.out, H2'.out, H3.out, H4'.out, H5'.out]; rfl]; simp only [bne, H4'.out, H5'.out]; rfl, Below.refl _ _⟩
  case rest =>
    obtain ⟨rfl, hbc⟩ := hcut
    have B1 := aside hbc
    clear f0 f1 f2 f3 f4 f5 f6 hbc
    obtain ⟨f0, f1, f2, f3, f4, f5, f6⟩ := SX.out _ B1.out
    cases hen : endsB fr tz o
    · have H1 := aside hen
      go_wp2
      go_ret
      exact ⟨ret_i64 (fchk_1 H1.out).symm, bthen BX.out B1.out⟩
    · have H1 := aside hen
      clear hen
      by_cases h2 : q2 = 0
      · subst h2
        go_wp2_with fail
        refine (C2.out _).mono ?_
        rintro e w2 ⟨rfl, b2⟩
        have B2 := aside (B1.out.trans (b2.mono B1.out.size))
        clear b2 f0 f1 f2 f3 f4 f5 f6
        obtain ⟨f0, f1, f2, f3, f4, f5, f6⟩ := SX.out _ B2.out
        go_upto_region 7 with fail
        go_cut [61] (fun s9 wx => s9 = .bool (!turnB tn fr o) ∧ Below w2.heap.size w2 wx)
        case first =>
          by_cases t1 : tn < 0
          · skip
            go_wp2
            go_meet
            exact ⟨by rw [show turnB tn fr o = false from by unfold turnB; rw [decide_eq_false (show ¬ ¬ tn < 0 by omega)]; rfl]; rfl, Below.refl _ _⟩
          · by_cases t2 : 63 < tn
            · skip
              go_wp2
              go_meet
              exact ⟨by rw [show turnB tn fr o = false from by unfold turnB; rw [decide_eq_false (show ¬ ¬ 63 < tn by omega), Bool.and_false]; rfl]; rfl, Below.refl _ _⟩
            · have HTN := aside (show ¬ tn < 0 ∧ ¬ 63 < tn from ⟨t1, t2⟩)
              obtain ⟨q, hq⟩ : ∃ q, (tn % 2 == 0) = q := ⟨_, rfl⟩
              obtain ⟨z, hz⟩ : ∃ z, (fr == o) = z := ⟨_, rfl⟩
              have HQ := aside hq
              have HZ := aside hz
              cases q <;> cases z
              all_goals
                go_wp2
                go_meet
                exact ⟨by unfold turnB; rw [HQ.out, HZ.out, decide_eq_true (show ¬ tn < 0 by have := HTN.out.1; omega), decide_eq_true (show ¬ 63 < tn by have := HTN.out.2; omega)]; rfl, Below.refl _ _⟩
        case rest =>
          obtain ⟨rfl, hbc⟩ := hcut
          have B3 := aside (B2.out.trans (hbc.mono B2.out.size))
          clear f0 f1 f2 f3 f4 f5 f6 hbc
          obtain ⟨f0, f1, f2, f3, f4, f5, f6⟩ := SX.out _ B3.out
          cases htu : turnB tn fr o
          · have H3 := aside htu
            go_wp2
            go_ret
            exact ⟨ret_i64 (fchk_3 H1.out H2.out H3.out).symm, bthen BX.out B3.out⟩
          · have H3 := aside htu
            clear htu
            by_cases h4 : q4 = 0
            · subst h4
              go_wp2_with fail
              refine (C4.out _ (bthen BX.out B3.out)).mono ?_
              rintro e w4 ⟨rfl, b4⟩
              have B4 := aside (B3.out.trans (b4.mono B3.out.size))
              clear b4 f0 f1 f2 f3 f4 f5 f6
              obtain ⟨f0, f1, f2, f3, f4, f5, f6⟩ := SX.out _ B4.out
              by_cases h6 : tn = 0
              · subst h6
                by_cases hl1 : len = 1
                · subst hl1
                  rcases (HE.out.keep (bthen BX.out B4.out)).2.2 with h0 | ⟨b, off, rfl, hb, hc⟩
                  · omega
                  obtain ⟨hat, -⟩ := hc 0 (by omega)
                  rw [Nat.zero_mul, Nat.add_zero] at hat
                  obtain ⟨p, hp⟩ : ∃ p, P 0 = p := ⟨_, rfl⟩
                  have HP := aside hp
                  rw [hp] at hat
                  clear hp hc
                  obtain ⟨kind, lo, hi, op, cnt, s0, s1, ea, el, ec, T⟩ := p
                  obtain ⟨c0, c1, c2, c3, -⟩ := hat
                  dsimp only at c0 c1 c2 c3
                  by_cases hk : kind = 1
                  · subst hk
                    obtain ⟨q, hq⟩ : ∃ q, (lo.toList == (⟨#[]⟩ : ByteArray).toList && (hi.toList == (⟨#[]⟩ : ByteArray).toList && op == true)) = q := ⟨_, rfl⟩
                    have RQ := fun W => rg_ne_run lo hi op ⟨#[]⟩ ⟨#[]⟩ true W
                    rw [hq] at RQ
                    have H5 := aside (show opening P 1 = q from by unfold opening; rw [HP.out]; dsimp only; rw [hq]; rfl)
                    clear hq
                    cases q
                    · go_wp2
                      go_ret
                      exact ⟨ret_i64 (fchk_5 H1.out H2.out H3.out H4.out rfl H5.out).symm, bthen BX.out B4.out⟩
                    · go_wp2
                      go_ret
                      exact ⟨ret_i64 (fchk_6 H1.out H2.out H3.out H4.out (fun g => by rw [H5.out] at g; cases g.2)).symm, bthen BX.out B4.out⟩
                  · have bk : (kind == 1) = false := by simpa using hk
                    have H5 := aside (show opening P 1 = false from by unfold opening; rw [HP.out]; dsimp only; rw [bk]; rfl)
                    go_wp2
                    go_ret
                    exact ⟨ret_i64 (fchk_5 H1.out H2.out H3.out H4.out rfl H5.out).symm, bthen BX.out B4.out⟩
                · have bl : ((len : Int) == 1) = false := by simp; omega
                  have H5 := aside (show opening P len = false from by unfold opening; rw [decide_eq_false hl1]; rfl)
                  go_wp2
                  go_ret
                  exact ⟨ret_i64 (fchk_5 H1.out H2.out H3.out H4.out rfl H5.out).symm, bthen BX.out B4.out⟩
              · have b6 : (tn == 0) = false := by simpa using h6
                have H6 := aside h6
                go_wp2
                go_ret
                exact ⟨ret_i64 (fchk_6 H1.out H2.out H3.out H4.out (fun g => H6.out g.1)).symm, bthen BX.out B4.out⟩
            · have b4q : (q4 == 0) = false := by simpa using h4
              have N4 := aside h4
              go_wp2_with fail
              refine (C4.out _ (bthen BX.out B3.out)).mono ?_
              rintro e w4 ⟨rfl, b4⟩
              have B4 := aside (B3.out.trans (b4.mono B3.out.size))
              clear b4 f0 f1 f2 f3 f4 f5 f6
              go_wp2
              go_ret
              exact ⟨ret_i64 ((fchk_4 H1.out H2.out H3.out (by rw [H4.out]; exact N4.out)).trans H4.out).symm, bthen BX.out B4.out⟩
      · have b2q : (q2 == 0) = false := by simpa using h2
        have N2 := aside h2
        go_wp2_with fail
        refine (C2.out _).mono ?_
        rintro e w2 ⟨rfl, b2⟩
        have B2 := aside (B1.out.trans (b2.mono B1.out.size))
        clear b2 f0 f1 f2 f3 f4 f5 f6
        go_wp2
        go_ret
        exact ⟨ret_i64 ((fchk_2 H1.out (by rw [H2.out]; exact N2.out)).trans H2.out).symm, bthen BX.out B2.out⟩
end Go.Proofs.Ytgfblndmblgeeaa

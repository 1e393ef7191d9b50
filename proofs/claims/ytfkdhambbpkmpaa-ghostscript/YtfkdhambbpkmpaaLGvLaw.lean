/-
  The law GhostScript, walked.
-/
import Derived.Test.YtfkdhambbpkmpaaGvL
namespace Go.Proofs.Ytfkdhambbpkmpaa
open Go.RowKit
set_option linter.unusedVariables false

set_option maxHeartbeats 32000000 in
set_option maxRecDepth 100000 in
theorem gscript_walk (a : Option Addr) (len cap : Nat) (T : Nat → Gop) (w : World) (g0 : GopsIn w a len cap T) :
    Calls Try.prog 3 #[.slice a len cap] w fun e w' => e = .returned (.bool true) ∧ Below w.heap.size w w' := by
  have G0 := aside g0
  have hmx : (len : Int) ≤ 9223372036854775807 := by have h1 := g0.1; have h2 := g0.2.1; unfold maxLen at h2; omega
  have CB := aside (beyond19_any a len cap T w g0)
  clear g0
  go_enter Try.func3, Try.ntmps3
  go_wp2_with fail
  refine CB.out.mono ?_
  rintro r w0 ⟨u, rfl, hu, b0⟩
  have B0 := aside b0
  have HU := aside hu
  clear b0 hu CB
  cases u
  case true =>
    go_wp2
    go_ret
    exact ⟨rfl, B0.out⟩
  case false =>
    go_wp2_with fail
    refine (gnew_any w0).mono ?_
    rintro r w1 ⟨p1, m1, rfl, g1, b1⟩
    have G1 := aside g1
    have B1 := aside b1
    clear g1 b1
    go_wp2_with fail
    refine (gnew_any w1).mono ?_
    rintro r w2 ⟨p2, m2, rfl, g2, b2⟩
    have G2 := aside g2
    have B2 := aside b2
    clear g2 b2
    go_wp2_with fail
    refine (rhnew_any w2).mono ?_
    rintro r w3 ⟨q1, rfl, r1, b3⟩
    have R1 := aside r1
    have B3 := aside b3
    clear r1 b3
    go_wp2_with fail
    refine (rhnew_any w3).mono ?_
    rintro r w4 ⟨q2, rfl, r2, b4⟩
    have TW := aside (two_new (bthen B0.out B1.out) B0.out.size G1.out G2.out B2.out R1.out B3.out r2 b4)
    clear r2 b4 G1 G2 R1 B1 B2 B3 B0
    go_wp2_with fail
    go_loopw [7] (fun i wr => ∃ j : Nat, i = .int .i64 (j : Int) ∧ j ≤ len ∧ Hid (TwoG w wr p1 m1 q1 p2 m2 q2 j)) (fun i _ => len - (intOf i).toNat)
    case atStart => exact ⟨0, rfl, Nat.zero_le _, TW.out⟩
    case round =>
      obtain ⟨j, rfl, hj, HT2⟩ := hrel
      have HUL := aside (HU.out (by first | trivial | rfl))
      have HJ := aside (show j ≤ 4194304 from Nat.le_trans hj HUL.out.1)
      by_cases hlt : (j : Int) < (len : Int)
      · have hj0 : (0 : Int) ≤ (j : Int) := by omega
        rcases G0.out.2.2 with h0 | ⟨b, off, rfl, hb, hcc⟩
        · omega
        obtain ⟨t, ht⟩ : ∃ t, T j = t := ⟨_, rfl⟩
        have HL := aside (show t.l.n ≤ 1073741824 from by have := HUL.out.2 j (by omega); rw [ht] at this; omega)
        obtain ⟨h5, h6⟩ := hcc j (by omega)
        rw [ht] at h5 h6
        have HI := aside h6
        obtain ⟨c0, c1, c2, c3, c4, c5, c6, c7, c8⟩ := h5.keep HT2.out.bel
        clear ht h5 h6 hcc
        obtain ⟨kd, nd, en, ll, sd⟩ := t
        dsimp only at c0 c1 c2 c3 c4 c5 c6 c7 c8
        cases sd
        case false =>
          go_wp2_with fail
          refine (two_fst HT2.out (by have := HJ.out; omega) ⟨kd, nd, en, ll, false⟩ HI.out HL.out).mono ?_
          rintro r w9 ⟨rfl, t9⟩
          have T9 := aside t9
          clear t9 c0 c1 c2 c3 c4 c5 c6 c7 c8
          go_wp2
          go_roundw
          case rel => exact ⟨j + 1, by first | rfl | go_num, by omega, T9.out⟩
          case measure => simp [intOf] <;> omega
        case true =>
          go_wp2_with fail
          refine (two_snd HT2.out (by have := HJ.out; omega) ⟨kd, nd, en, ll, true⟩ HI.out HL.out).mono ?_
          rintro r w9 ⟨rfl, t9⟩
          have T9 := aside t9
          clear t9 c0 c1 c2 c3 c4 c5 c6 c7 c8
          go_wp2
          go_roundw
          case rel => exact ⟨j + 1, by first | rfl | go_num, by omega, T9.out⟩
          case measure => simp [intOf] <;> omega
      · obtain rfl : j = len := by omega
        have H1 := aside HT2.out.fst
        have H2 := aside HT2.out.snd
        have HB := aside HT2.out.bel
        clear HT2
        go_wp2_with fail
        go_loopw [9] (fun i wx => ∃ n : Int, i = .int .i64 n ∧ -1 ≤ n ∧ n ≤ 9 ∧ Below wr.heap.size wr wx) (fun i _ => (9 - intOf i).toNat)
        case atStart => exact ⟨-1, rfl, by omega, by omega, Below.refl _ _⟩
        case round =>
          obtain ⟨n, rfl, hn1, hn2, hX⟩ := hrel
          have HX := aside hX
          clear hX
          by_cases hn : n ≤ 8
          · obtain ⟨l1, k1, C1, D1⟩ := (H1.out.on HX.out).both n
            obtain ⟨l2, k2, C2, D2⟩ := (H2.out.on HX.out).both n
            have K1 := aside k1
            have K2 := aside k2
            have C1 := aside C1
            have C2 := aside C2
            have D1 := aside D1
            have D2 := aside D2
            clear k1 k2
            go_wp2_with fail
            refine (C1.out _ (Below.refl _ _)).mono ?_
            rintro r x1 ⟨a1, n1, d1, rfl, o1, b1⟩
            have B1 := aside b1
            have O1 := aside o1
            clear o1 b1
            go_wp2_with fail
            refine (D1.out _ B1.out).mono ?_
            rintro r x2 ⟨a2, n2, d2, rfl, o2, b2⟩
            have B2 := aside (bthen B1.out b2)
            have O1b := aside (own_on O1.out b2)
            have O2 := aside o2
            clear o2 b2
            go_wp2_with fail
            refine (same_rows O1b.out O2.out K1.out).mono ?_
            rintro r x3 ⟨rfl, b3⟩
            have B3 := aside (bthen B2.out b3)
            clear b3
            go_wp2_with fail
            refine (C2.out _ B3.out).mono ?_
            rintro r x4 ⟨a3, n3, d3, rfl, o3, b4⟩
            have B4 := aside (bthen B3.out b4)
            have O3 := aside o3
            clear o3 b4
            go_wp2_with fail
            refine (D2.out _ B4.out).mono ?_
            rintro r x5 ⟨a4, n4, d4, rfl, o4, b5⟩
            have B5 := aside (bthen B4.out b5)
            have O3b := aside (own_on O3.out b5)
            have O4 := aside o4
            clear o4 b5
            go_wp2_with fail
            refine (same_rows O3b.out O4.out K2.out).mono ?_
            rintro r x6 ⟨rfl, b6⟩
            have B6 := aside (bthen HX.out (bthen B5.out b6))
            clear b6
            go_wp2
            go_roundw
            case rel => exact ⟨n + 1, by first | rfl | go_num, by omega, by omega, B6.out⟩
            case measure => simp [intOf] <;> omega
          · have hn3 : ¬ n ≤ 8 := hn
            go_wp2
            go_ret
            exact ⟨rfl, bthen HB.out HX.out⟩
end Go.Proofs.Ytfkdhambbpkmpaa

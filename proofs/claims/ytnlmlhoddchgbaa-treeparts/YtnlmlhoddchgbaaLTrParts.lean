/-
  The law TreeParts, walked.
-/
import Derived.Test.YtnlmlhoddchgbaaTrGrown
import Derived.Test.YtnlmlhoddchgbaaTrRank
namespace Go.Proofs.Ytnlmlhoddchgbaa
open Go.RowKit
set_option linter.unusedVariables false

theorem gFoldAt (i j : Int) {w W : World} {tb m : Nat} {T : Tr Int Mp} {x : Mp} (h : GI w W tb T) (g : Gd mSz T m) (hm : m ≤ 281474976710655) (e : Tr.fol mJoin mZero T i j = x) :
    Calls Try.prog 18 #[.pointer (some ⟨tb, 0, none⟩), .int .i64 i, .int .i64 j] W fun e w' => e = .returned (.agg #[.int .u64 x.a, .int .u64 x.b]) ∧ GI w w' tb T := by
  subst e; exact gFold i j h g hm

theorem gJoinAt {x y z : Mp} {w W : World} {tb : Nat} {T : Tr Int Mp} (h : GI w W tb T) (e : mJoin x y = z) :
    Calls Try.prog 15 #[.agg #[.int .u64 x.a, .int .u64 x.b], .agg #[.int .u64 y.a, .int .u64 y.b]] W fun e w' => e = .returned (.agg #[.int .u64 z.a, .int .u64 z.b]) ∧ GI w w' tb T := by
  subst e; exact (joinRef_any x y W).mono fun e w' ⟨h1, h2⟩ => ⟨h1, h.on h2⟩

/-- A cut: a place from i on up to n. -/
theorem cut_ok {N I : Int} (c : Int) (h0 : 0 ≤ I) (h1 : I ≤ N) (hN : N ≤ 281474976710655) : IntKind.i64.wrap (N - I) = N - I ∧ IntKind.i64.wrap (N - I + 1) = N - I + 1 ∧ IntKind.i64.wrap (I + amongI c (N - I + 1)) = I + amongI c (N - I + 1) ∧ I ≤ I + amongI c (N - I + 1) ∧ I + amongI c (N - I + 1) ≤ N := by
  have := amongI_lt (i := c) (n := N - I + 1) (by omega)
  simp only [IntKind.wrap_i64]
  omega

set_option maxHeartbeats 8000000 in
set_option maxRecDepth 100000 in
theorem parts_walk (a : Option Addr) (len cap : Nat) (T : Nat → RowR) (x y z : Int) (key : ByteArray) (w : World) (h : RowsIn6 w a len cap T) (hb : I64 x ∧ I64 y ∧ I64 z) :
    Calls Try.prog 5 #[.slice a len cap, .agg #[.int .i64 x, .int .i64 y, .int .i64 z], .string key] w fun e w' => e = .returned (.bool true) ∧ Below w.heap.size w w' := by
  have HB := aside hb
  have HL := aside (show len ≤ 281474976710655 from by have := h.2.2.1; omega)
  have HO := aside h
  have hmn := map_ne
  clear h hb
  have X0 := aside (heap_alloc_new w (.cells #[.int .i64 x, .int .i64 y, .int .i64 z] 59))
  go_enter Try.func5, Try.ntmps5
  go_wp2_with fail
  refine (shown_any _).mono ?_
  rintro e w1 ⟨rfl, b1⟩
  have X1 := aside (blk_on X0.out b1)
  have B1 := aside (bthen (bnew w _) b1)
  clear b1 X0
  go_wp2_with fail
  refine (grown_any a len cap T w1 (HO.out.keep B1.out)).mono ?_
  rintro e w2 ⟨tb, rfl, hg⟩
  have X2 := aside (blk_on X1.out hg.below)
  have G2 := aside (⟨hg.tree, bthen B1.out hg.below, by have := B1.out.size; have := hg.lt; omega⟩ : GI w w2 tb (treeR T len))
  have GD := aside (treeR_gd T len)
  clear hg X1 B1
  generalize treeR T len = R at *
  obtain ⟨N, hN⟩ : ∃ n : Int, (R.cnt : Int) = n := ⟨_, rfl⟩
  have HN := aside hN
  have CL := aside (fun W (h : GI w W tb R) => hN ▸ ylenM h.tree)
  have hN0 : 0 ≤ N := by omega
  have hN1 : N ≤ 281474976710655 := by have := GD.out.cnt; have := HL.out; omega
  obtain ⟨x0, x1, x2⟩ : w2.cell? ⟨w.heap.size, 0, none⟩ = some (.int .i64 x) ∧ w2.cell? ⟨w.heap.size, 1, none⟩ = some (.int .i64 y) ∧ w2.cell? ⟨w.heap.size, 2, none⟩ = some (.int .i64 z) := by
    have := X2.out
    simp [World.cell?, this]
  clear hN X2
  have e1 : IntKind.i64.wrap (N + 1) = N + 1 := by rw [IntKind.wrap_i64]; omega
  have HN0 := aside hN0
  have HN1 := aside hN1
  clear hN0 hN1
  go_wp2_with fail
  refine (CL.out _ G2.out).mono ?_
  rintro e w3 ⟨rfl, rfl⟩
  go_wp2_with fail
  refine (among_any x (N + 1) _ HB.out.1.1 HB.out.1.2 (by have := HN1.out; omega)).mono ?_
  rintro e w4 ⟨rfl, rfl⟩
  have hI := amongI_lt (i := x) (n := N + 1) (by have := HN0.out; omega)
  generalize amongI x (N + 1) = I at *
  have HI := aside (show 0 ≤ I ∧ I ≤ N from by omega)
  clear hI e1
  obtain ⟨f1, f2, f3, f4, f5⟩ := cut_ok y HI.out.1 HI.out.2 HN1.out
  have F45 := aside (And.intro f4 f5)
  clear f4 f5
  go_wp2_with fail
  refine (among_any y (N - I + 1) _ HB.out.2.1.1 HB.out.2.1.2 (by have := HN1.out; have := HI.out; omega)).mono ?_
  rintro e w5 ⟨rfl, rfl⟩
  generalize amongI y (N - I + 1) = A at *
  obtain ⟨J, hJ⟩ : ∃ t, I + A = t := ⟨_, rfl⟩
  have f3' : IntKind.i64.wrap (I + A) = J := f3.trans hJ
  have HJ := aside (show I ≤ J ∧ J ≤ N from by have := F45.out; omega)
  clear f1 f2 f3 hJ F45
  obtain ⟨g1, g2, g3, g4, g5⟩ := cut_ok (N := N) (I := J) z (by have := HI.out; have := HJ.out; omega) HJ.out.2 HN1.out
  have F45 := aside (And.intro g4 g5)
  clear g4 g5
  go_wp2_with fail
  refine (among_any z (N - J + 1) _ HB.out.2.2.1 HB.out.2.2.2 (by have := HN1.out; have := HI.out; have := HJ.out; omega)).mono ?_
  rintro e w6 ⟨rfl, rfl⟩
  generalize amongI z (N - J + 1) = A2 at *
  obtain ⟨K, hK⟩ : ∃ t, J + A2 = t := ⟨_, rfl⟩
  have g3' : IntKind.i64.wrap (J + A2) = K := g3.trans hK
  have HK := aside (show J ≤ K ∧ K ≤ N from by have := F45.out; omega)
  clear g1 g2 g3 hK F45 x0 x1 x2
  obtain ⟨i0, hi0⟩ := Int.eq_ofNat_of_zero_le HI.out.1
  obtain ⟨j0, hj0⟩ := Int.eq_ofNat_of_zero_le (show 0 ≤ J from by have := HI.out; have := HJ.out; omega)
  obtain ⟨k0, hk0⟩ := Int.eq_ofNat_of_zero_le (show 0 ≤ K from by have := HI.out; have := HJ.out; have := HK.out; omega)
  have p1 : i0 ≤ j0 := by have := HJ.out; omega
  have p2 : j0 ≤ k0 := by have := HK.out; omega
  have p3 : k0 ≤ R.cnt := by have := HK.out; have := HN.out; omega
  have q1 : mJoin (Tr.fol mJoin mZero R I J) (Tr.fol mJoin mZero R J K) = Tr.fol mJoin mZero R I K := by rw [hi0, hj0, hk0]; exact fol_join mon_map R p1 p2 p3
  have q2 : mJoin (Tr.fol mJoin mZero R 0 I) (Tr.fol mJoin mZero R I K) = Tr.fol mJoin mZero R 0 K := by
    rw [hi0, hk0, show (0 : Int) = ((0 : Nat) : Int) from rfl]; exact fol_join mon_map R (Nat.zero_le _) (Nat.le_trans p1 p2) p3
  have q3 : mJoin (Tr.fol mJoin mZero R 0 K) (Tr.fol mJoin mZero R K N) = Tr.fol mJoin mZero R 0 N := by
    rw [hk0, ← HN.out, show (0 : Int) = ((0 : Nat) : Int) from rfl]; exact fol_join mon_map R (Nat.zero_le _) p3 (Nat.le_refl _)
  have q4 : Tr.fol mJoin mZero R J J = mZero := by rw [hj0]; exact fol_none mon_map R (by omega)
  have hm := HL.out
  obtain ⟨F1, r1⟩ : ∃ t, Tr.fol mJoin mZero R I J = t := ⟨_, rfl⟩
  obtain ⟨F2, r2⟩ : ∃ t, Tr.fol mJoin mZero R J K = t := ⟨_, rfl⟩
  obtain ⟨F3, r3⟩ : ∃ t, Tr.fol mJoin mZero R I K = t := ⟨_, rfl⟩
  obtain ⟨F4, r4⟩ : ∃ t, Tr.fol mJoin mZero R 0 I = t := ⟨_, rfl⟩
  obtain ⟨F5, r5⟩ : ∃ t, Tr.fol mJoin mZero R 0 K = t := ⟨_, rfl⟩
  obtain ⟨F6, r6⟩ : ∃ t, Tr.fol mJoin mZero R K N = t := ⟨_, rfl⟩
  obtain ⟨F7, r7⟩ : ∃ t, Tr.fol mJoin mZero R 0 N = t := ⟨_, rfl⟩
  rw [r1, r2, r3] at q1
  rw [r4, r3, r5] at q2
  rw [r5, r6, r7] at q3
  have C1 := aside (fun W (h : GI w W tb R) => gFoldAt I J h GD.out hm r1)
  have C2 := aside (fun W (h : GI w W tb R) => gFoldAt J K h GD.out hm r2)
  have C3 := aside (fun W (h : GI w W tb R) => gFoldAt I K h GD.out hm r3)
  have C4 := aside (fun W (h : GI w W tb R) => gFoldAt 0 I h GD.out hm r4)
  have C6 := aside (fun W (h : GI w W tb R) => gFoldAt K N h GD.out hm r6)
  have C7 := aside (fun W (h : GI w W tb R) => gFoldAt 0 N h GD.out hm r7)
  have C8 := aside (fun W (h : GI w W tb R) => gFoldAt J J h GD.out hm q4)
  have J1 := aside (fun W (h : GI w W tb R) => gJoinAt h q1)
  have J2 := aside (fun W (h : GI w W tb R) => gJoinAt h q2)
  have J3 := aside (fun W (h : GI w W tb R) => gJoinAt h q3)
  clear q1 q2 q3 q4 r1 r2 r3 r4 r5 r6 r7 p1 p2 p3 hi0 hj0 hk0 hm
  have C3b := C3
  go_wp2_with fail
  refine (C1.out _ G2.out).mono ?_
  rintro e v3 ⟨rfl, h1⟩
  have G3 := aside h1
  clear h1 C1
  go_wp2_with fail
  refine (C2.out _ G3.out).mono ?_
  rintro e v4 ⟨rfl, h1⟩
  have G4 := aside h1
  clear h1 C2
  go_wp2_with fail
  refine (J1.out _ G4.out).mono ?_
  rintro e v5 ⟨rfl, h1⟩
  have G5 := aside h1
  clear h1 J1
  go_wp2_with fail
  refine (C3.out _ G5.out).mono ?_
  rintro e v6 ⟨rfl, h1⟩
  have G6 := aside h1
  clear h1 C3
  go_wp2_with fail
  refine (C4.out _ G6.out).mono ?_
  rintro e v7 ⟨rfl, h1⟩
  have G7 := aside h1
  clear h1 C4
  go_wp2_with fail
  refine (C3b.out _ G7.out).mono ?_
  rintro e v8 ⟨rfl, h1⟩
  have G8 := aside h1
  clear h1 C3b
  go_wp2_with fail
  refine (J2.out _ G8.out).mono ?_
  rintro e v9 ⟨rfl, h1⟩
  have G9 := aside h1
  clear h1 J2
  go_wp2_with fail
  refine (C6.out _ G9.out).mono ?_
  rintro e v10 ⟨rfl, h1⟩
  have G10 := aside h1
  clear h1 C6
  go_wp2_with fail
  refine (J3.out _ G10.out).mono ?_
  rintro e v11 ⟨rfl, h1⟩
  have G11 := aside h1
  clear h1 J3
  go_wp2_with fail
  refine (C7.out _ G11.out).mono ?_
  rintro e v12 ⟨rfl, h1⟩
  have G12 := aside h1
  clear h1 C7
  go_wp2_with fail
  refine (C8.out _ G12.out).mono ?_
  rintro e v13 ⟨rfl, h1⟩
  have G13 := aside h1
  clear h1 C8
  go_wp2_with fail
  refine (zero_any _).mono ?_
  rintro e v14 ⟨rfl, h1⟩
  have G14 := aside (G13.out.on h1)
  clear h1
  have hmz := hmn mZero
  rw [mZero_a, mZero_b] at hmz
  obtain ⟨rk, hrk⟩ : ∃ t : Int, (Tr.lower key R : Int) = t := ⟨_, rfl⟩
  have HRK := aside hrk
  have CK := aside (fun W (h : GI w W tb R) => hrk ▸ yrankM key h.tree GD.out HL.out)
  have hr0 : 0 ≤ rk := by omega
  have hr1 : rk ≤ N := by have := Tr.lower_le key R; have := HN.out; omega
  clear hrk
  go_wp2_with fail
  refine (CK.out _ G14.out).mono ?_
  rintro e v15 ⟨rfl, h1⟩
  have G := aside (G14.out.on h1)
  clear h1 CK
  go_wp2
  go_loopw [105] (fun k wr => ∃ q : Nat, k = .int .i64 (q : Int) ∧ q ≤ R.cnt ∧ GI w wr tb R) (fun k _ => R.cnt - (intOf k).toNat)
  case atStart => exact ⟨0, rfl, Nat.zero_le _, G.out⟩
  case round =>
    obtain ⟨q, rfl, hq, hg⟩ := hrel
    have G1 := aside hg
    have HQ := aside hq
    clear hg hq G
    by_cases hlt : (q : Int) < N
    · obtain ⟨l1, kk, vv, ss, r1, hn1, hrow⟩ := nth_node (t := R) (q := q) (by have := HN.out; omega)
      obtain ⟨l2, r2, hf2⟩ := found_nth (z := vv) GD.out.rises hn1
      have hlow := lower_at (l := l1) (r := r1) GD.out.rises hrow
      have hcmp := rank_lt (key := key) GD.out.rises hrow
      rw [← lower_rank key R GD.out.rises] at hcmp
      dsimp only at hcmp
      have CA := aside (fun W (h : GI w W tb R) => yatM (q : Int) h.tree GD.out HL.out (by omega) (by have := HN1.out; omega))
      have CG := aside (fun W (h : GI w W tb R) => ygetM kk h.tree GD.out HL.out)
      have CR := aside (fun W (h : GI w W tb R) => yrankM kk h.tree GD.out HL.out)
      rw [hn1] at CA
      rw [hf2] at CG
      rw [hlow] at CR
      dsimp only [Tr.key, Tr.val, Tr.isNil, Bool.not_false] at CA CG
      have QL := aside (show q + 1 ≤ R.cnt from by have := HN.out; omega)
      have hq0 : (0 : Int) ≤ (q : Int) := by omega
      have hqw : IntKind.i64.wrap ((q : Int) + 1) = (q : Int) + 1 := by have := HN1.out; rw [IntKind.wrap_i64]; omega
      have hcm2 : (Op.bytesLess kk.toList key.toList = true ∧ (q : Int) < rk) ∨ (Op.bytesLess kk.toList key.toList = false ∧ ¬ (q : Int) < rk) := by
        have hk := HRK.out
        by_cases h9 : q < Tr.lower key R
        · rw [decide_eq_true h9] at hcmp; exact .inl ⟨hcmp, by omega⟩
        · rw [decide_eq_false h9] at hcmp; exact .inr ⟨hcmp, by omega⟩
      clear hn1 hrow hf2 hlow hcmp
      go_wp2_with fail
      refine (CA.out _ G1.out).mono ?_
      rintro e u7 ⟨rfl, h1⟩
      have G2 := aside (G1.out.on h1)
      clear h1
      go_wp2_with fail
      refine (CG.out _ G2.out).mono ?_
      rintro e u8 ⟨rfl, h1⟩
      have G3 := aside (G2.out.on h1)
      clear h1 G2
      go_wp2_with fail
      refine (CR.out _ G3.out).mono ?_
      rintro e u9 ⟨rfl, h1⟩
      have G4 := aside (G3.out.on h1)
      clear h1 G3 CA CG CR
      rcases hcm2 with ⟨a1, a2⟩ | ⟨a1, a2⟩
      · go_wp2
        go_roundw
        case rel => exact ⟨q + 1, by go_num, QL.out, G4.out⟩
        case measure => simp [intOf]; have := QL.out; omega
      · go_wp2
        go_roundw
        case rel => exact ⟨q + 1, by go_num, QL.out, G4.out⟩
        case measure => simp [intOf]; have := QL.out; omega
    · have hh := has_at GD.out.rises key
      have CA := aside (fun W (h : GI w W tb R) => yatM rk h.tree GD.out HL.out (by omega) (by have := HN1.out; omega))
      have CG := aside (fun W (h : GI w W tb R) => ygetM key h.tree GD.out HL.out)
      rw [HRK.out] at hh
      generalize (!(Tr.found key R).isNil) = hs at *
      generalize (Tr.found key R).val 0 = u1 at *
      generalize (!(Tr.nth R rk).isNil) = b1 at *
      generalize (Tr.nth R rk).key = yk at *
      generalize (Tr.nth R rk).val 0 = u2 at *
      go_wp2_with fail
      refine (CA.out _ G1.out).mono ?_
      rintro e u7 ⟨rfl, h1⟩
      have G2 := aside (G1.out.on h1)
      clear h1
      go_wp2_with fail
      refine (CG.out _ G2.out).mono ?_
      rintro e u8 ⟨rfl, h1⟩
      have G3 := aside (G2.out.on h1)
      clear h1 G2 CA CG
      cases b1
      · have e0 : hs = false := by simpa using hh
        subst e0
        clear hh
        go_wp2
        go_ret
        exact ⟨rfl, G3.out.below⟩
      · cases hb2 : (yk.toList == key.toList)
        · have e0 : hs = false := by simpa [hb2] using hh
          subst e0
          clear hh
          go_wp2
          go_ret
          exact ⟨rfl, G3.out.below⟩
        · have e0 : hs = true := by simpa [hb2] using hh
          subst e0
          clear hh
          go_wp2
          go_ret
          exact ⟨rfl, G3.out.below⟩

end Go.Proofs.Ytnlmlhoddchgbaa

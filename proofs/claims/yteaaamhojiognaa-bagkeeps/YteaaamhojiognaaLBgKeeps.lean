/-
  The law BagKeeps, walked.
-/
import Derived.Test.YteaaamhojiognaaBgS
namespace Go.Proofs.Yteaaamhojiognaa
open Go.RowKit
set_option linter.unusedVariables false

theorem amgs (n : Nat) (hn : 0 < n) (hx : (n : Int) ≤ 9223372036854775807) (p : Int) (W : World) : Calls Try.prog 10 #[.int .i64 p, .int .i64 (n : Int)] W fun e w' => e = .returned (.int .i64 (amg p (n : Int))) ∧ w' = W := among18 p n W hn hx
theorem amg512 (p : Int) (W : World) : Calls Try.prog 10 #[.int .i64 p, .int .i64 512] W fun e w' => e = .returned (.int .i64 (amg p 512)) ∧ w' = W := among18 p 512 W (by omega) (by omega)
theorem amg4 (p : Int) (W : World) : Calls Try.prog 10 #[.int .i64 p, .int .i64 4] W fun e w' => e = .returned (.int .i64 (amg p 4)) ∧ w' = W := among18 p 4 W (by omega) (by omega)
theorem five {w : World} {i : Nat} {a b c d e : Value} {T : TypeId} (h : w.heap[i]? = some (.cells #[a, b, c, d, e] T (0, 0))) : w.cell? ⟨i, 0, none⟩ = some a ∧ w.cell? ⟨i, 1, none⟩ = some b ∧ w.cell? ⟨i, 2, none⟩ = some c ∧ w.cell? ⟨i, 3, none⟩ = some d ∧ w.cell? ⟨i, 4, none⟩ = some e := by
  simp [World.cell?, h]
theorem twoB {w : World} {i : Nat} {a b : Value} {T : TypeId} (h : w.heap[i]? = some (.cells #[a, b] T (0, 0))) : w.cell? ⟨i, 0, none⟩ = some a ∧ w.cell? ⟨i, 1, none⟩ = some b := by
  simp [World.cell?, h]
theorem byIn_conv {w : World} {a : Option Addr} {len cap : Nat} {L : List UInt8} (h : ByIn w a len cap L) : (convert 32 9 (.slice a len cap)).run Try.prog w = .ok (.string ⟨L.toArray⟩) w := by
  obtain ⟨h1, _, _, h4⟩ := h
  rcases h4 with ⟨rfl, rfl, rfl⟩ | ⟨x, rfl, hc⟩
  · obtain rfl : L = [] := List.length_eq_zero_iff.1 h1
    exact conv_own w 0 (.slice none 0 0) [] (World.ownsRow_nil _ _ _ _)
  · have key := run_convert_bytes_back (P := Try.prog) w 32 9 5 x cap L Try.underlying32 Try.underlying5 Try.underlying9 (fun j hj => by
      refine hc j _ ?_
      simp [Lib.byteCells, hj])
    rw [h1] at key
    exact key

set_option maxHeartbeats 32000000 in
set_option maxRecDepth 100000 in
theorem bkeeps_walk (z : Int) (a0 : Option Addr) (len cap : Nat) (R : Nat → Bo) (w : World) (g0 : Bos w a0 len cap R) :
    Calls Try.prog 4 #[.int .i64 z, .slice a0 len cap] w fun e w' => e = .returned (.bool true) ∧ Below w.heap.size w w' := by
  have G0 := aside g0
  have hmx : (len : Int) ≤ 9223372036854775807 := by have h1 := g0.1; have h2 := g0.2.1; unfold maxLen at h2; omega
  have HLN := aside (show len * 56 ≤ 140737488351232 from g0.2.2.1)
  clear g0
  obtain ⟨k0, hk0, hk1⟩ := amg_lt z (m := 512) (by omega)
  have CR := aside (amg512 z)
  rw [show (512 : Int) = ((512 : Nat) : Int) from rfl, hk0] at CR
  replace CR := aside (fun W => CR.out W)
  obtain ⟨rm, hrm⟩ : ∃ r, 1 + k0 = r := ⟨_, rfl⟩
  have hwr : IntKind.i64.wrap (1 + (k0 : Int)) = (rm : Int) := by simp only [IntKind.wrap_i64]; omega
  have HR1 := aside (show 1 ≤ rm ∧ rm ≤ 512 from by omega)
  clear hk0 hk1 hrm
  go_enter Try.func4, Try.ntmps4
  go_wp2_with fail
  refine (shown18 _).mono ?_
  rintro e w1 ⟨rfl, b1⟩
  have B1 := aside b1
  clear b1
  go_wp2_with fail
  refine (CR.out _).mono ?_
  rintro e w1 ⟨rfl, rfl⟩
  go_wp2_with fail
  refine (bnew_ok rm HR1.out.1 HR1.out.2 _).mono ?_
  rintro e w2 ⟨b, rfl, hb, b2⟩
  have D0 := aside (show KInv R w w2 0 b (.slice none 0 0) rm 0 0 [] (.slice none 0 0) [] from
    ⟨⟨⟨hb.bx, Nat.le_trans B1.out.size hb.ge, own_low hb.row B1.out.size, fun p hp => (by cases hp), hb.le, hb.r1, hb.r2⟩, bthen B1.out b2⟩, ⟨rfl, .inl ⟨rfl, rfl⟩⟩, rfl, fun j p s h1 => by simp at h1, Nat.le_refl _, Nat.le_refl _⟩)
  clear hb b2 B1
  go_wp2
  go_loopw [7, 8, 9, 40] (fun vi la lo i wr => ∃ (k : Nat) (v : Value) (last lost : Nat) (l : List Pk) (S : List (Int × Nat)) (ai : Option Addr) (n ci : Nat), i = .int .i64 (k : Int) ∧ k ≤ len ∧ vi = .slice ai n ci ∧ la = .int .i64 (last : Int) ∧ lo = .int .i64 (lost : Int) ∧ Hid (KInv R w wr k b v rm last lost l (.slice ai n ci) S) ∧ Hid (l.length = n)) (fun _ _ _ i _ => len - (intOf i).toNat)
  case atStart => exact ⟨0, _, 0, 0, [], [], none, 0, 0, rfl, Nat.zero_le _, rfl, rfl, rfl, D0.out, rfl⟩
  case round =>
    clear D0
    obtain ⟨k, v, last, lost, l, S, ai, n, ci, rfl, hk, rfl, rfl, rfl, DI, HN⟩ := hrel
    have HB := aside DI.out.st.bel
    by_cases hlk : (k : Int) < (len : Int)
    · have hk0 : (0 : Int) ≤ (k : Int) := by omega
      have HKL := aside (show k < len from by omega)
      obtain ⟨x, off, ha, hx, hc⟩ : ∃ b off, a0 = some ⟨b, off, none⟩ ∧ b < w.heap.size ∧ ∀ i, i < len → BoAt w b (off + i * 5) (R i) ∧ (R i).In w := by
        rcases G0.out.2.2.2 with h0 | h0
        · omega
        · exact h0
      subst ha
      have HX := aside hx
      have HC := aside hc
      obtain ⟨kd, hkd⟩ : ∃ y, (R k).kind = y := ⟨_, rfl⟩
      obtain ⟨fr, hfr⟩ : ∃ y, (R k).frm = y := ⟨_, rfl⟩
      obtain ⟨ds, hds⟩ : ∃ y, (R k).dst = y := ⟨_, rfl⟩
      obtain ⟨ix, hix⟩ : ∃ y, (R k).i = y := ⟨_, rfl⟩
      obtain ⟨da, hda⟩ : ∃ y, (R k).da = y := ⟨_, rfl⟩
      obtain ⟨dl, hdl⟩ : ∃ y, (R k).dl = y := ⟨_, rfl⟩
      obtain ⟨dc, hdc⟩ : ∃ y, (R k).dc = y := ⟨_, rfl⟩
      obtain ⟨m0, m1, m2, m3, m4⟩ := (hc k (by omega)).1.keep HB.out
      have hin := (hc k (by omega)).2
      rw [hkd] at m0
      rw [hfr] at m1
      rw [hds] at m2
      rw [hix] at m3
      rw [hda, hdl, hdc] at m4
      unfold Bo.In at hin
      rw [hda, hdl, hdc] at hin
      have HIN := aside hin
      have HFD := aside (show (R k).frm = fr ∧ (R k).dst = ds from ⟨hfr, hds⟩)
      clear hx hc hin hkd hfr hds hix hda hdl hdc
      obtain ⟨X1, hX1⟩ : ∃ X, wr.alloc (.cells #[.int .i64 kd, .int .i64 fr, .int .i64 ds, .int .i64 ix, .slice da dl dc] 34) = X := ⟨_, rfl⟩
      obtain ⟨q1, hq1⟩ : ∃ q, wr.heap.size = q := ⟨_, rfl⟩
      have b1 := bnew wr (.cells #[.int .i64 kd, .int .i64 fr, .int .i64 ds, .int .i64 ix, .slice da dl dc] 34)
      have k1 := heap_alloc_new wr (.cells #[.int .i64 kd, .int .i64 fr, .int .i64 ds, .int .i64 ix, .slice da dl dc] 34)
      rw [hX1] at b1 k1
      rw [hq1] at k1
      have K1 := aside k1
      have D1 := aside (DI.out.on b1)
      have HB1 := aside D1.out.st.bel
      have HSM := aside (show last ≤ 4611686018427387904 ∧ lost ≤ 4611686018427387904 from by
        have h1 := DI.out.la; have h2 := DI.out.lo; have h3 := HLN.out; omega)
      obtain ⟨c0, c1, c2, c3, c4⟩ := five k1
      obtain ⟨k4, hk4, hk5⟩ := amg_lt kd (m := 4) (by omega)
      have CK := aside (amg4 kd)
      rw [show (4 : Int) = ((4 : Nat) : Int) from rfl, hk4] at CK
      replace CK := aside (fun W => CK.out W)
      clear b1 k1 hk4
      go_upto_region 11 with fail
      try rw [hX1]
      clear hX1 hq1 m0 m1 m2 m3 m4
      go_wp2_with fail
      refine (CK.out _).mono ?_
      rintro e X1' ⟨rfl, rfl⟩
      match k4, hk5 with
      | 0, _ =>
        as_aux_lemma =>
          by_cases hno : NodeOk fr ds
          · by_cases hbig : 65536 < dl
            · go_wp2_with fail
              refine (bsend_big b fr ds da dl dc hno hbig _).mono ?_
              rintro e X ⟨rfl, rfl⟩
              have DT := aside D1.out.next
              clear hno hbig c0 c1 c2 c3 c4
              as_aux_lemma =>
                have TL := aside (blen_any DT.out.st.bag)
                rw [HN.out] at TL
                have TO := aside (blost_any DT.out.st.bag)
                go_wp2_with fail
                refine TL.out.mono ?_
                rintro e W9 ⟨rfl, rfl⟩
                go_wp2_with fail
                refine TO.out.mono ?_
                rintro e W9 ⟨rfl, rfl⟩
                go_wp2
                go_roundw
                case rel => exact ⟨k + 1, _, _, _, _, _, _, _, _, by first | rfl | go_num, by omega, rfl, rfl, rfl, DT.out, HN.out⟩
                case measure => simp [intOf] <;> omega
            · have HNO := aside hno
              have HBG := aside (show dl ≤ 65536 from by omega)
              have HFA := aside (show 0 < dl → ∀ y, da = some y → ¬ BgS b v y.block from fun h0 y hy => D1.out.st.bag.far_old (HIN.out.2.2 h0 y hy))
              clear hno hbig
              go_wp2_with fail
              refine (bsend_ok D1.out.st.bag fr ds da dl dc (R k).L HNO.out HBG.out (HIN.out.1.on HB1.out) HFA.out HSM.out.1 HSM.out.2 HB1.out.size).mono ?_
              rintro e Y ⟨nn, rfl, kk, hs⟩
              rcases hs with ⟨hful, e2, hb⟩ | ⟨hrm, e2, v2, p2, hp2, -, hb, -⟩
              · injection e2 with e2
                injection e2 with _ e2
                subst e2
                clear c0 c1 c2 c3 c4
                as_aux_lemma =>
                  have DT := aside (D1.out.lose kk hb)
                  have HRN := aside (show n = rm from by rw [← HN.out]; exact hful)
                  have TL := aside (blen_any DT.out.st.bag)
                  rw [HN.out] at TL
                  have TO := aside (blost_any DT.out.st.bag)
                  rw [show ((lost + 1 : Nat) : Int) = (lost : Int) + 1 from by omega] at TO
                  have hwl : IntKind.i64.wrap ((lost : Int) + 1) = (lost : Int) + 1 := by have := HSM.out.2; simp only [IntKind.wrap_i64]; omega
                  have hnr : ¬ ((n : Int) < (rm : Int)) := by have := HRN.out; omega
                  clear hful
                  go_wp2_with fail
                  refine (CR.out _).mono ?_
                  rintro e W9 ⟨rfl, rfl⟩
                  go_wp2_with fail
                  refine TL.out.mono ?_
                  rintro e W9 ⟨rfl, rfl⟩
                  go_wp2_with fail
                  refine TO.out.mono ?_
                  rintro e W9 ⟨rfl, rfl⟩
                  go_wp2
                  go_roundw
                  case rel => exact ⟨k + 1, _, _, _, _, _, _, _, _, by first | rfl | go_num, by omega, rfl, rfl, by first | rfl | go_num, DT.out, HN.out⟩
                  case measure => simp [intOf] <;> omega
              · injection e2 with e2
                injection e2 with _ e2
                subst e2
                have HP2 := aside (show Pk.pl p2 = ⟨(last : Int) + 1, (R k).frm, (R k).dst, (R k).L⟩ from by rw [HFD.out.1, HFD.out.2]; exact hp2)
                clear c0 c1 c2 c3 c4 hp2
                as_aux_lemma =>
                  have BT := aside (D1.out.st.turn kk hb)
                  have RT := aside (D1.out.row_kept kk)
                  rw [HN.out] at RT
                  have KT := aside kk
                  have HT := aside hb
                  have hnr : ¬ ((rm : Int) ≤ (n : Int)) := by rw [← HN.out]; omega
                  have hla : (0 : Int) < (last : Int) + 1 := by omega
                  have hlb : ¬ ((last : Int) + 1 ≤ (last : Int)) := by omega
                  have hlc : ¬ ((last : Int) + 1 < 0) := by omega
                  have bn := bnew Y (.cells #[.int .i64 ((last : Int) + 1), .int .i64 ((k : Nat) : Int)] 57)
                  have KN := aside (rowIn_new stF ((last : Int) + 1, k) (heap_alloc_new Y (.cells #[.int .i64 ((last : Int) + 1), .int .i64 ((k : Nat) : Int)] 57)))
                  have RN := aside (own_on RT.out bn)
                  have BN := aside (BT.out.on bn)
                  have HNS := aside (show n ≤ 512 from by have h1 := BT.out.bag.le; have h2 := BT.out.bag.r2; rw [List.length_append, HN.out] at h1; omega)
                  clear bn
                  go_wp2_with fail
                  refine (CR.out _).mono ?_
                  rintro e W9 ⟨rfl, rfl⟩
                  go_wp2_with (at_builtin; refine wpList_plain rfl fun K hK => op_append_rowC stF Try.underlying55 infoSt rfl _ _ rfl w.heap.size n 1 (.slice ai n ci) S [((last : Int) + 1, k)] (by rfl) RN.out _ 1 (by rfl) KN.out (by have := HNS.out; omega) (by have := HNS.out; unfold maxLen; omega) BN.out.bel.size ?_; intro v5 w5 own5 g5 at5; refine hK _ _ ?_; refine Hid.out ?_)
                  refine aside ?_
                  have B5 := aside (BN.out.grown RN.out (by decide) (by decide) (by decide) g5)
                  obtain ⟨a5, c5, rfl, -⟩ := own_slice own5
                  have HN5 := aside (show (l ++ [p2]).length = n + 1 from by rw [List.length_append, HN.out]; rfl)
                  have DT := aside (D1.out.more (Nat.lt_succ_self k) HP2.out KT.out HT.out B5.out (by rw [HN.out]; exact own5))
                  have TL := aside (blen_any DT.out.st.bag)
                  rw [HN5.out] at TL
                  have TO := aside (blost_any DT.out.st.bag)
                  clear own5 g5 at5 hnr hla hlb
                  go_wp2_with fail
                  refine TL.out.mono ?_
                  rintro e W9 ⟨rfl, rfl⟩
                  go_wp2_with fail
                  refine TO.out.mono ?_
                  rintro e W9 ⟨rfl, rfl⟩
                  go_wp2
                  go_roundw
                  case rel => exact ⟨k + 1, _, _, _, _, _, _, _, _, by first | rfl | go_num, by omega, rfl, by first | rfl | go_num, rfl, DT.out, HN5.out⟩
                  case measure => simp [intOf] <;> omega
          · go_wp2_with fail
            refine (bsend_arg b fr ds da dl dc hno _).mono ?_
            rintro e X ⟨rfl, rfl⟩
            have DT := aside D1.out.next
            clear hno c0 c1 c2 c3 c4
            as_aux_lemma =>
              have TL := aside (blen_any DT.out.st.bag)
              rw [HN.out] at TL
              have TO := aside (blost_any DT.out.st.bag)
              go_wp2_with fail
              refine TL.out.mono ?_
              rintro e W9 ⟨rfl, rfl⟩
              go_wp2_with fail
              refine TO.out.mono ?_
              rintro e W9 ⟨rfl, rfl⟩
              go_wp2
              go_roundw
              case rel => exact ⟨k + 1, _, _, _, _, _, _, _, _, by first | rfl | go_num, by omega, rfl, rfl, rfl, DT.out, HN.out⟩
              case measure => simp [intOf] <;> omega
      | 1, _ =>
        as_aux_lemma =>
          by_cases hno : ix < 0 ∨ (n : Int) ≤ ix
          · have HNO := aside (show ix < 0 ∨ (l.length : Int) ≤ ix from by rw [HN.out]; exact hno)
            clear hno
            go_wp2_with fail
            refine (bdouble_no D1.out.st.bag ix HNO.out).mono ?_
            rintro e X ⟨rfl, rfl⟩
            have DT := aside D1.out.next
            clear c0 c1 c2 c3 c4
            as_aux_lemma =>
              have TL := aside (blen_any DT.out.st.bag)
              rw [HN.out] at TL
              have TO := aside (blost_any DT.out.st.bag)
              go_wp2_with fail
              refine TL.out.mono ?_
              rintro e W9 ⟨rfl, rfl⟩
              go_wp2_with fail
              refine TO.out.mono ?_
              rintro e W9 ⟨rfl, rfl⟩
              go_wp2
              go_roundw
              case rel => exact ⟨k + 1, _, _, _, _, _, _, _, _, by first | rfl | go_num, by omega, rfl, rfl, rfl, DT.out, HN.out⟩
              case measure => simp [intOf] <;> omega
          · obtain ⟨i, rfl⟩ : ∃ i : Nat, ix = (i : Int) := ⟨ix.toNat, by omega⟩
            have hin : i < l.length := by rw [HN.out]; omega
            obtain ⟨p, hp⟩ : ∃ p, l[i]? = some p := ⟨l[i], List.getElem?_eq_getElem hin⟩
            obtain ⟨s, hs⟩ : ∃ s, S[i]? = some s := ⟨S[i]'(by rw [D1.out.len]; exact hin), List.getElem?_eq_getElem _⟩
            have HP := aside hp
            have HS := aside hs
            have HEQ := aside (D1.out.eq i p s hp hs)
            have HIN2 := aside hin
            have h0 : ¬ ((i : Int) < 0) := by omega
            have h1 : ¬ ((n : Int) ≤ (i : Int)) := by rw [← HN.out]; omega
            clear hp hs hin hno
            go_wp2_with fail
            refine (bdouble_yes D1.out.st.bag i p HP.out HSM.out.1 HSM.out.2 HB1.out.size).mono ?_
            rintro e Y ⟨nn, rfl, kk, hs⟩
            have k5 := blk_keep K1.out kk (fun hs => by
              rcases hs with h | h
              · have h2 := D1.out.st.bag.bx
                rw [← h, K1.out] at h2
                simp at h2
              · exact own_typed D1.out.st.bag.row K1.out (by decide) h)
            clear c0 c1 c2 c3 c4
            have SX := aside (fun (W : World) (bb : Below Y.heap.size Y W) => (show ∃ g c, Value.slice ai n ci = .slice (some ⟨g, 0, none⟩) n c ∧ (W.cell? ⟨q1, 3, none⟩ = some (.int .i64 (i : Int)) ∧ W.cell? ⟨g, i * 2 + 1, none⟩ = some (.int .i64 (s.2 : Int))) from by
              have hr := own_on (D1.out.row_kept kk) bb
              rw [HN.out] at hr
              obtain ⟨g, c, e1, z0, z1⟩ := st_at hr HS.out
              obtain ⟨y0, y1, y2, y3, y4⟩ := five (blk_on k5 bb)
              exact ⟨g, c, e1, y3, z1⟩))
            obtain ⟨g, c, e1, -⟩ := SX.out Y (Below.refl _ Y)
            injection e1 with e1 _ e3
            subst e1 e3
            replace SX := aside (fun (W : World) (bb : Below Y.heap.size Y W) => (show W.cell? ⟨q1, 3, none⟩ = some (.int .i64 (i : Int)) ∧ W.cell? ⟨g, i * 2 + 1, none⟩ = some (.int .i64 (s.2 : Int)) from by
              obtain ⟨g', c', e1, h2⟩ := SX.out W bb
              injection e1 with e1 _ _
              injection e1 with e1
              injection e1 with e1
              subst e1
              exact h2))
            obtain ⟨c3, c9⟩ := SX.out Y (Below.refl _ Y)
            have hb0 : Below Y.heap.size Y Y.drew := (Below.refl _ Y).drew
            obtain ⟨s1, s2⟩ := s
            dsimp only at HEQ SX c9
            rcases hs with ⟨hful, e2, hb⟩ | ⟨hrm, e2, v2, p2, hp2, -, hb, -⟩
            · injection e2 with e2
              injection e2 with _ e2
              subst e2
              go_wp2_with fail
              refine wp_region_held_drew (S := fun W => W.cell? ⟨q1, 3, none⟩ = some (.int .i64 (i : Int)) ∧ W.cell? ⟨g, i * 2 + 1, none⟩ = some (.int .i64 (s2 : Int))) (by kernel_rfl) (SX.out _ hb0) (fun hHeld => ?_)
              refine wpAnyH_take (i := 0) (v := ?_) rfl (by kernel_rfl) (by kernel_rfl) (by kernel_rfl) (fun _ _ _ h => h) (Or.inl ⟨by rfl, ?_⟩) (by assumption) ?_
              rotate_left
              · intro w hSw
                go_simp
                try with_reducible rfl
              simp only [Act.put, List.getElem_toArray, List.getElem_cons_zero, List.setIfInBounds_toArray, List.set_cons_zero, List.set_cons_succ]
              refine wpAnyH_take (i := 1) (v := ?_) rfl (by kernel_rfl) (by kernel_rfl) (by kernel_rfl) (fun _ _ _ h => h) (Or.inl ⟨by rfl, ?_⟩) (by assumption) ?_
              rotate_left
              · intro w hSw
                go_simp
                try with_reducible rfl
              simp only [Act.put, List.getElem_toArray, List.getElem_cons_zero, List.getElem_cons_succ, List.setIfInBounds_toArray, List.set_cons_zero, List.set_cons_succ]
              refine wpAnyH_take (i := 2) (v := ?_) rfl (by kernel_rfl) (by kernel_rfl) (by kernel_rfl) (fun _ _ _ h => h) (Or.inl ⟨by rfl, ?_⟩) (by assumption) ?_
              rotate_left
              · intro w hSw
                go_simp
                try with_reducible rfl
              simp only [Act.put, List.getElem_toArray, List.getElem_cons_zero, List.getElem_cons_succ, List.setIfInBounds_toArray, List.set_cons_zero, List.set_cons_succ]
              refine wpAnyH_take (i := 3) (v := ?_) rfl (by kernel_rfl) (by kernel_rfl) (by kernel_rfl) (fun _ _ _ h => h) (Or.inl ⟨by rfl, ?_⟩) (by assumption) ?_
              rotate_left
              · intro w hSw
                go_simp
                try with_reducible rfl
              simp only [Act.put, List.getElem_toArray, List.getElem_cons_zero, List.getElem_cons_succ, List.setIfInBounds_toArray, List.set_cons_zero, List.set_cons_succ]
              refine wpAnyH_take (i := 4) (v := ?_) rfl (by kernel_rfl) (by kernel_rfl) (by kernel_rfl) (fun _ _ _ h => h) (Or.inl ⟨by rfl, ?_⟩) (by assumption) ?_
              rotate_left
              · intro w hSw
                go_simp
                try with_reducible rfl
              simp only [Act.put, List.getElem_toArray, List.getElem_cons_zero, List.getElem_cons_succ, List.setIfInBounds_toArray, List.set_cons_zero, List.set_cons_succ]
              refine wpAnyH_take (i := 5) (v := ?_) rfl (by kernel_rfl) (by kernel_rfl) (by kernel_rfl) (fun _ _ _ h => h) (Or.inl ⟨by rfl, ?_⟩) (by assumption) ?_
              rotate_left
              · intro w hSw
                go_simp
                try with_reducible rfl
              simp only [Act.put, List.getElem_toArray, List.getElem_cons_zero, List.getElem_cons_succ, List.setIfInBounds_toArray, List.set_cons_zero, List.set_cons_succ]
              refine wpAnyH_take (i := 6) (v := ?_) rfl (by kernel_rfl) (by kernel_rfl) (by kernel_rfl) (fun _ _ _ h => h) (Or.inl ⟨by rfl, ?_⟩) (by assumption) ?_
              rotate_left
              · intro w hSw
                go_simp
                try with_reducible rfl
              simp only [Act.put, List.getElem_toArray, List.getElem_cons_zero, List.getElem_cons_succ, List.setIfInBounds_toArray, List.set_cons_zero, List.set_cons_succ]
              refine wpAnyH_take (i := 7) (v := ?_) rfl (by kernel_rfl) (by kernel_rfl) (by kernel_rfl) (fun _ _ _ h => h) (Or.inl ⟨by rfl, ?_⟩) (by assumption) ?_
              rotate_left
              · intro w hSw
                go_simp
                try with_reducible rfl
              simp only [Act.put, List.getElem_toArray, List.getElem_cons_zero, List.getElem_cons_succ, List.setIfInBounds_toArray, List.set_cons_zero, List.set_cons_succ]
              refine wpAnyH_take (i := 8) (v := ?_) rfl (by kernel_rfl) (by kernel_rfl) (by kernel_rfl) (fun _ _ _ h => h) (Or.inl ⟨by rfl, ?_⟩) (by assumption) ?_
              rotate_left
              · intro w hSw
                go_simp
                try with_reducible rfl
              simp only [Act.put, List.getElem_toArray, List.getElem_cons_zero, List.getElem_cons_succ, List.setIfInBounds_toArray, List.set_cons_zero, List.set_cons_succ]
              refine wpAnyH_done (by kernel_rfl) ?_ _
              clear c3 c9 k5
              have KK2 := aside (show Keeps (BgS b v) X1' Y.drew from kk.trans (Keeps.of_below hb0 _))
              have HB2 := aside (hb.on hb0)
              clear kk hb hb0 hHeld
              generalize Y.drew = Y2 at KK2 HB2 ⊢
              as_aux_lemma =>
                have DT := aside (D1.out.lose KK2.out HB2.out)
                have HRN := aside (show n = rm from by rw [← HN.out]; exact hful)
                have TL := aside (blen_any DT.out.st.bag)
                rw [HN.out] at TL
                have TO := aside (blost_any DT.out.st.bag)
                rw [show ((lost + 1 : Nat) : Int) = (lost : Int) + 1 from by omega] at TO
                have hwl : IntKind.i64.wrap ((lost : Int) + 1) = (lost : Int) + 1 := by have := HSM.out.2; simp only [IntKind.wrap_i64]; omega
                have hnr : ¬ ((n : Int) < (rm : Int)) := by have := HRN.out; omega
                clear hful
                go_wp2_with fail
                refine (CR.out _).mono ?_
                rintro e W9 ⟨rfl, rfl⟩
                go_wp2_with fail
                refine TL.out.mono ?_
                rintro e W9 ⟨rfl, rfl⟩
                go_wp2_with fail
                refine TO.out.mono ?_
                rintro e W9 ⟨rfl, rfl⟩
                go_wp2
                go_roundw
                case rel => exact ⟨k + 1, _, _, _, _, _, _, _, _, by first | rfl | go_num, by omega, rfl, rfl, by first | rfl | go_num, DT.out, HN.out⟩
                case measure => simp [intOf] <;> omega
            · injection e2 with e2
              injection e2 with _ e2
              subst e2
              go_wp2_with fail
              refine wp_region_held_drew (S := fun W => W.cell? ⟨q1, 3, none⟩ = some (.int .i64 (i : Int)) ∧ W.cell? ⟨g, i * 2 + 1, none⟩ = some (.int .i64 (s2 : Int))) (by kernel_rfl) (SX.out _ hb0) (fun hHeld => ?_)
              refine wpAnyH_take (i := 0) (v := ?_) rfl (by kernel_rfl) (by kernel_rfl) (by kernel_rfl) (fun _ _ _ h => h) (Or.inl ⟨by rfl, ?_⟩) (by assumption) ?_
              rotate_left
              · intro w hSw
                go_simp
                try with_reducible rfl
              simp only [Act.put, List.getElem_toArray, List.getElem_cons_zero, List.setIfInBounds_toArray, List.set_cons_zero, List.set_cons_succ]
              refine wpAnyH_take (i := 1) (v := ?_) rfl (by kernel_rfl) (by kernel_rfl) (by kernel_rfl) (fun _ _ _ h => h) (Or.inl ⟨by rfl, ?_⟩) (by assumption) ?_
              rotate_left
              · intro w hSw
                go_simp
                try with_reducible rfl
              simp only [Act.put, List.getElem_toArray, List.getElem_cons_zero, List.getElem_cons_succ, List.setIfInBounds_toArray, List.set_cons_zero, List.set_cons_succ]
              refine wpAnyH_take (i := 2) (v := ?_) rfl (by kernel_rfl) (by kernel_rfl) (by kernel_rfl) (fun _ _ _ h => h) (Or.inl ⟨by rfl, ?_⟩) (by assumption) ?_
              rotate_left
              · intro w hSw
                go_simp
                try with_reducible rfl
              simp only [Act.put, List.getElem_toArray, List.getElem_cons_zero, List.getElem_cons_succ, List.setIfInBounds_toArray, List.set_cons_zero, List.set_cons_succ]
              refine wpAnyH_take (i := 3) (v := ?_) rfl (by kernel_rfl) (by kernel_rfl) (by kernel_rfl) (fun _ _ _ h => h) (Or.inl ⟨by rfl, ?_⟩) (by assumption) ?_
              rotate_left
              · intro w hSw
                go_simp
                try with_reducible rfl
              simp only [Act.put, List.getElem_toArray, List.getElem_cons_zero, List.getElem_cons_succ, List.setIfInBounds_toArray, List.set_cons_zero, List.set_cons_succ]
              refine wpAnyH_take (i := 4) (v := ?_) rfl (by kernel_rfl) (by kernel_rfl) (by kernel_rfl) (fun _ _ _ h => h) (Or.inl ⟨by rfl, ?_⟩) (by assumption) ?_
              rotate_left
              · intro w hSw
                go_simp
                try with_reducible rfl
              simp only [Act.put, List.getElem_toArray, List.getElem_cons_zero, List.getElem_cons_succ, List.setIfInBounds_toArray, List.set_cons_zero, List.set_cons_succ]
              refine wpAnyH_take (i := 5) (v := ?_) rfl (by kernel_rfl) (by kernel_rfl) (by kernel_rfl) (fun _ _ _ h => h) (Or.inl ⟨by rfl, ?_⟩) (by assumption) ?_
              rotate_left
              · intro w hSw
                go_simp
                try with_reducible rfl
              simp only [Act.put, List.getElem_toArray, List.getElem_cons_zero, List.getElem_cons_succ, List.setIfInBounds_toArray, List.set_cons_zero, List.set_cons_succ]
              refine wpAnyH_take (i := 6) (v := ?_) rfl (by kernel_rfl) (by kernel_rfl) (by kernel_rfl) (fun _ _ _ h => h) (Or.inl ⟨by rfl, ?_⟩) (by assumption) ?_
              rotate_left
              · intro w hSw
                go_simp
                try with_reducible rfl
              simp only [Act.put, List.getElem_toArray, List.getElem_cons_zero, List.getElem_cons_succ, List.setIfInBounds_toArray, List.set_cons_zero, List.set_cons_succ]
              refine wpAnyH_take (i := 7) (v := ?_) rfl (by kernel_rfl) (by kernel_rfl) (by kernel_rfl) (fun _ _ _ h => h) (Or.inl ⟨by rfl, ?_⟩) (by assumption) ?_
              rotate_left
              · intro w hSw
                go_simp
                try with_reducible rfl
              simp only [Act.put, List.getElem_toArray, List.getElem_cons_zero, List.getElem_cons_succ, List.setIfInBounds_toArray, List.set_cons_zero, List.set_cons_succ]
              refine wpAnyH_take (i := 8) (v := ?_) rfl (by kernel_rfl) (by kernel_rfl) (by kernel_rfl) (fun _ _ _ h => h) (Or.inl ⟨by rfl, ?_⟩) (by assumption) ?_
              rotate_left
              · intro w hSw
                go_simp
                try with_reducible rfl
              simp only [Act.put, List.getElem_toArray, List.getElem_cons_zero, List.getElem_cons_succ, List.setIfInBounds_toArray, List.set_cons_zero, List.set_cons_succ]
              refine wpAnyH_done (by kernel_rfl) ?_ _
              clear c3 c9 k5
              have KK2 := aside (show Keeps (BgS b v) X1' Y.drew from kk.trans (Keeps.of_below hb0 _))
              have HB2 := aside (hb.on hb0)
              have HP2 := aside (show Pk.pl p2 = ⟨(last : Int) + 1, (R s2).frm, (R s2).dst, (R s2).L⟩ from by
                obtain ⟨-, -, f1, f2, f3⟩ := HEQ.out
                rw [← f1, ← f2, ← f3]; exact hp2)
              have HOF := aside (show s2 < k + 1 from by have := HEQ.out.2.1; omega)
              clear kk hb hb0 hHeld hp2
              generalize Y.drew = Y2 at KK2 HB2 ⊢
              as_aux_lemma =>
                have BT := aside (D1.out.st.turn KK2.out HB2.out)
                have RT := aside (D1.out.row_kept KK2.out)
                rw [HN.out] at RT
                have KT := aside KK2.out
                have HT := aside HB2.out
                have hnr : ¬ ((rm : Int) ≤ (n : Int)) := by rw [← HN.out]; omega
                have hla : (0 : Int) < (last : Int) + 1 := by omega
                have hlb : ¬ ((last : Int) + 1 ≤ (last : Int)) := by omega
                have hlc : ¬ ((last : Int) + 1 < 0) := by omega
                have bn := bnew Y2 (.cells #[.int .i64 ((last : Int) + 1), .int .i64 ((s2 : Nat) : Int)] 57)
                have KN := aside (rowIn_new stF ((last : Int) + 1, s2) (heap_alloc_new Y2 (.cells #[.int .i64 ((last : Int) + 1), .int .i64 ((s2 : Nat) : Int)] 57)))
                have RN := aside (own_on RT.out bn)
                have BN := aside (BT.out.on bn)
                have HNS := aside (show n ≤ 512 from by have h1 := BT.out.bag.le; have h2 := BT.out.bag.r2; rw [List.length_append, HN.out] at h1; omega)
                clear bn
                go_wp2_with fail
                refine (CR.out _).mono ?_
                rintro e W9 ⟨rfl, rfl⟩
                go_wp2_with (at_builtin; refine wpList_plain rfl fun K hK => op_append_rowC stF Try.underlying55 infoSt rfl _ _ rfl w.heap.size n 1 (.slice (some ⟨g, 0, none⟩) n ci) S [((last : Int) + 1, s2)] (by rfl) RN.out _ 1 (by rfl) KN.out (by have := HNS.out; omega) (by have := HNS.out; unfold maxLen; omega) BN.out.bel.size ?_; intro v5 w5 own5 g5 at5; refine hK _ _ ?_; refine Hid.out ?_)
                refine aside ?_
                have B5 := aside (BN.out.grown RN.out (by decide) (by decide) (by decide) g5)
                obtain ⟨a5, c5, rfl, -⟩ := own_slice own5
                have HN5 := aside (show (l ++ [p2]).length = n + 1 from by rw [List.length_append, HN.out]; rfl)
                have DT := aside (D1.out.more HOF.out HP2.out KT.out HT.out B5.out (by rw [HN.out]; exact own5))
                have TL := aside (blen_any DT.out.st.bag)
                rw [HN5.out] at TL
                have TO := aside (blost_any DT.out.st.bag)
                clear own5 g5 at5 hnr hla hlb
                go_wp2_with fail
                refine TL.out.mono ?_
                rintro e W9 ⟨rfl, rfl⟩
                go_wp2_with fail
                refine TO.out.mono ?_
                rintro e W9 ⟨rfl, rfl⟩
                go_wp2
                go_roundw
                case rel => exact ⟨k + 1, _, _, _, _, _, _, _, _, by first | rfl | go_num, by omega, rfl, by first | rfl | go_num, rfl, DT.out, HN5.out⟩
                case measure => simp [intOf] <;> omega
      | 2, _ =>
        as_aux_lemma =>
          obtain ⟨at_, hat, hat2⟩ := amg_lt ix (m := n + 1) (by omega)
          have HNS := aside (show n ≤ 512 from by have h1 := D1.out.st.bag.le; have h2 := D1.out.st.bag.r2; rw [HN.out] at h1; omega)
          have CA := fun W => amgs (n + 1) (by omega) (by have := HNS.out; omega) ix W
          rw [hat] at CA
          have hwn : IntKind.i64.wrap ((n : Int) + 1) = ((n + 1 : Nat) : Int) := by have := HNS.out; simp only [IntKind.wrap_i64]; omega
          obtain ⟨n1, hn1⟩ : ∃ y, n + 1 = y := ⟨_, rfl⟩
          rw [hn1] at CA hwn hat2
          replace CA := aside CA
          have HA2 := aside (show at_ ≤ n from by omega)
          clear hat hn1 hat2
          go_wp2_with fail
          refine (CA.out _).mono ?_
          rintro e X1'' ⟨rfl, rfl⟩
          clear hwn
          obtain ⟨X2, hX2⟩ : ∃ X, X1''.alloc (.cells #[.int .i64 0, .int .i64 0, .int .i64 0, .slice none 0 0] 39) = X := ⟨_, rfl⟩
          obtain ⟨q2, hq2⟩ : ∃ q, X1''.heap.size = q := ⟨_, rfl⟩
          have b2 := bnew X1'' (.cells #[.int .i64 0, .int .i64 0, .int .i64 0, .slice none 0 0] 39)
          have k2 := heap_alloc_new X1'' (.cells #[.int .i64 0, .int .i64 0, .int .i64 0, .slice none 0 0] 39)
          rw [hX2] at b2 k2
          rw [hq2] at k2
          have K2 := aside k2
          have D2 := aside (D1.out.on b2)
          have HB2 := aside D2.out.st.bel
          have HQ2 := aside (show w.heap.size ≤ q2 ∧ ∀ j, v.ownBlock = some j → j < q2 from ⟨by rw [← hq2]; exact HB1.out.size, fun j hj => by rw [← hq2]; exact (D1.out.st.bag.row.lt j hj).2⟩)
          have KO := aside (blk_on K1.out b2)
          have C1 := aside K1.out
          have HQ12 := aside (show q1 ≠ q2 from fun e => by have h2 := KO.out; rw [e, K2.out] at h2; simp at h2)
          have NB := aside (show ¬ BgS b v q1 ∧ ¬ BgS b v q2 from by
            refine ⟨fun hs => ?_, fun hs => ?_⟩
            · rcases hs with h | h
              · have h2 := D2.out.st.bag.bx
                rw [← h, KO.out] at h2
                simp at h2
              · exact own_typed D2.out.st.bag.row KO.out (by decide) h
            · rcases hs with h | h
              · have h2 := D2.out.st.bag.bx
                rw [← h, K2.out] at h2
                simp at h2
              · have := HQ2.out.2 _ h; omega)
          clear c0 c1 c2 c3 c4 b2 k2 D1 K1 HB1
          obtain ⟨c0, c1, c2, c3, c4⟩ := five C1.out
          have EX2 := aside hX2
          have EQ2 := aside hq2
          clear hX2 hq2
          go_upto_region 15 with fail
          rw [EX2.out, EQ2.out]
          clear EX2 EQ2 c0 c1 c2 c3 c4
          obtain ⟨c0, c1, c2, c3, c4⟩ := five KO.out
          go_wp2_with fail
          refine (CK.out _).mono ?_
          rintro e X2' ⟨rfl, rfl⟩
          by_cases hlt : at_ < n
          · have hai : (at_ : Int) < (n : Int) := by omega
            have hin : at_ < l.length := by rw [HN.out]; exact hlt
            obtain ⟨p, hp⟩ : ∃ p, l[at_]? = some p := ⟨l[at_], List.getElem?_eq_getElem hin⟩
            obtain ⟨s, hs⟩ : ∃ s, S[at_]? = some s := ⟨S[at_]'(by rw [D2.out.len]; exact hin), List.getElem?_eq_getElem _⟩
            have HP := aside hp
            have HS := aside hs
            have HEQ := aside (D2.out.eq at_ p s hp hs)
            have HIN2 := aside hin
            have HLT := aside hlt
            clear hp hs hin hlt
            obtain ⟨s1, s2⟩ := s
            dsimp only at HEQ
            go_wp2_with fail
            refine (btake_yes D2.out.st.bag at_ p HP.out HB2.out.size).mono ?_
            rintro e Y ⟨p5, rfl, hp5, d5, v5, hb, kk, hx⟩
            obtain ⟨f2, hf2⟩ : ∃ y, (R s2).frm = y := ⟨_, rfl⟩
            obtain ⟨t2, ht2⟩ : ∃ y, (R s2).dst = y := ⟨_, rfl⟩
            obtain ⟨L2, hL2⟩ : ∃ y, (R s2).L = y := ⟨_, rfl⟩
            obtain ⟨num5, frm5, dst5, da5, dl5, dc5, L5⟩ := p5
            have hp6 : Pk.pl ⟨num5, frm5, dst5, da5, dl5, dc5, L5⟩ = ⟨s1, f2, t2, L2⟩ := by
              obtain ⟨e1, -, e2, e3, e4⟩ := HEQ.out
              rw [hp5]
              unfold Pk.pl
              rw [e1, e2, e3, e4, hf2, ht2, hL2]
            obtain ⟨e1, e2, e3, e4⟩ := pk_ext hp6
            dsimp only at e1 e2 e3 e4
            subst e1 e2 e3 e4
            have HRS := aside (show (R s2).frm = frm5 ∧ (R s2).dst = dst5 ∧ (R s2).L = L5 from ⟨hf2, ht2, hL2⟩)
            clear hp5 hp6 hf2 ht2 hL2
            unfold Pk.v
            dsimp only at d5 ⊢
            have k4 := blk_keep K2.out kk NB.out.2
            have k1 := blk_keep KO.out kk NB.out.1
            have f0 := frozen_of_row Y q2 0 _ _ k4
            have f1 := frozen_of_row Y q2 1 _ _ k4
            have f2 := frozen_of_row Y q2 2 _ _ k4
            have f3 := frozen_of_row Y q2 3 _ _ k4
            obtain ⟨y0, y1, y2, y3⟩ := fourB k4
            obtain ⟨Z, hZ⟩ : ∃ Z, (((Y.setCell ⟨q2, 0, none⟩ (.int .i64 num5)).setCell ⟨q2, 1, none⟩ (.int .i64 frm5)).setCell ⟨q2, 2, none⟩ (.int .i64 dst5)).setCell ⟨q2, 3, none⟩ (.slice da5 dl5 dc5) = Z := ⟨_, rfl⟩
            have kz : Keeps (fun x => x = q2) Y Z := by rw [← hZ]; exact setFour_keeps Y q2 _ _ _ _
            have k5 := set_fourB k4 (.int .i64 num5) (.int .i64 frm5) (.int .i64 dst5) (.slice da5 dl5 dc5)
            rw [hZ] at k5
            have K4 := aside k5
            have K1 := aside (blk_keep k1 kz HQ12.out)
            obtain ⟨bt, rt⟩ := D2.out.part kk hb (fun j hj => .inl (hx j hj)) K2.out HQ2.out.1 HQ2.out.2 kz
            have D5 := aside (d5.part D2.out.st.bag kk K2.out HQ2.out.2 kz)
            have BT := aside bt
            have RT := aside rt
            clear hb kk hx d5 kz k1 k4 k5 bt rt c0 c1 c2 c3 c4
            go_upto_region 18 with fail
            try rw [hZ]
            clear hZ y0 y1 y2 y3 f0 f1 f2 f3
            have hr := RT.out
            rw [HN.out] at hr
            obtain ⟨g, c, e1, z0, z1⟩ := st_at hr HS.out
            injection e1 with e1 _ e3
            subst e1 e3
            dsimp only at z0 z1
            clear hr
            have hai0 : (0 : Int) ≤ (at_ : Int) := by omega
            obtain ⟨Z2, hZ2⟩ : ∃ X, Z.alloc (.cells #[.int .i64 num5, .int .i64 (s2 : Int)] 57) = X := ⟨_, rfl⟩
            obtain ⟨q3, hq3⟩ : ∃ q, Z.heap.size = q := ⟨_, rfl⟩
            have b3 := bnew Z (.cells #[.int .i64 num5, .int .i64 (s2 : Int)] 57)
            have k3 := heap_alloc_new Z (.cells #[.int .i64 num5, .int .i64 (s2 : Int)] 57)
            rw [hZ2] at b3 k3
            rw [hq3] at k3
            have bz := bthen b3 (Below.refl Z2.heap.size Z2).drew
            replace K1 := aside (blk_on K1.out bz)
            have K3 := aside (blk_on k3 (Below.refl Z2.heap.size Z2).drew)
            replace BT := aside (BT.out.on bz)
            replace RT := aside (own_on RT.out bz)
            replace K4 := aside (blk_on K4.out bz)
            replace D5 := aside (D5.out.on bz)
            have hr := RT.out
            rw [HN.out] at hr
            have h5 : IntKind.i64.wrap ((at_ : Int) + 1) = ((at_ + 1 : Nat) : Int) := by have h1 := HNS.out; have h2 := HA2.out; simp only [IntKind.wrap_i64]; omega
            obtain ⟨aT, cT, sl1, sl2, rT, rH⟩ := st_parts hr (k := at_) (by have := HLT.out; omega)
            have RTT := aside rT
            have RTH := aside rH
            obtain ⟨k6, hk6⟩ : ∃ y, at_ + 1 = y := ⟨_, rfl⟩
            obtain ⟨m6, hm6⟩ : ∃ y, n - k6 = y := ⟨_, rfl⟩
            have HM6 := aside (show at_ + m6 + 1 = n from by have := HLT.out; omega)
            have HK6 := aside hk6
            rw [hk6] at sl1 h5 RTT
            rw [hm6] at sl1 RTT
            clear b3 k3 bz hr rT rH hk6 hm6
            go_upto_region 22 with fail
            try rw [hZ2]
            try rw [hq3]
            clear hZ2 hq3 z0 z1
            refine wp_region_held_drew (S := fun _ => True) (by kernel_rfl) trivial (fun hHeld => ?_)
            generalize Z2.drew = W at K1 K3 BT RT RTT RTH K4 D5 ⊢
            refine wpAnyH_take (i := 0) (v := ?_) rfl (by kernel_rfl) (by kernel_rfl) (by kernel_rfl) (fun _ _ _ h => h) (Or.inl ⟨by rfl, ?_⟩) (by assumption) ?_
            rotate_left
            · intro w hSw
              go_simp
              try with_reducible rfl
            simp only [Act.put, List.getElem_toArray, List.getElem_cons_zero, List.setIfInBounds_toArray, List.set_cons_zero, List.set_cons_succ]
            refine wpAnyH_take (i := 1) (v := ?_) rfl (by kernel_rfl) (by kernel_rfl) (by kernel_rfl) (fun _ _ _ h => h) (Or.inl ⟨by rfl, ?_⟩) (by assumption) ?_
            rotate_left
            · intro w hSw
              go_simp
              try with_reducible rfl
            simp only [Act.put, List.getElem_toArray, List.getElem_cons_zero, List.getElem_cons_succ, List.setIfInBounds_toArray, List.set_cons_zero, List.set_cons_succ]
            refine wpAnyH_take (i := 2) (v := ?_) rfl (by kernel_rfl) (by kernel_rfl) (by kernel_rfl) (fun _ _ _ h => h) (Or.inl ⟨by rfl, ?_⟩) (by assumption) ?_
            rotate_left
            · intro w hSw
              go_simp
              try with_reducible rfl
            simp only [Act.put, List.getElem_toArray, List.getElem_cons_zero, List.getElem_cons_succ, List.setIfInBounds_toArray, List.set_cons_zero, List.set_cons_succ]
            refine wpAnyH_take (i := 4) (v := ?_) rfl (by kernel_rfl) (by kernel_rfl) (by kernel_rfl) (fun _ _ _ h => h) (Or.inl ⟨by rfl, ?_⟩) (by assumption) ?_
            rotate_left
            · intro w hSw
              go_simp
              try with_reducible rfl
            simp only [Act.put, List.getElem_toArray, List.getElem_cons_zero, List.getElem_cons_succ, List.setIfInBounds_toArray, List.set_cons_zero, List.set_cons_succ]
            refine wpAnyH_take (i := 5) (v := ?_) rfl (by kernel_rfl) (by kernel_rfl) (by kernel_rfl) (fun _ _ _ h => h) (Or.inl ⟨by rfl, ?_⟩) (by assumption) ?_
            rotate_left
            · intro w hSw
              go_simp
              try with_reducible rfl
            simp only [Act.put, List.getElem_toArray, List.getElem_cons_zero, List.getElem_cons_succ, List.setIfInBounds_toArray, List.set_cons_zero, List.set_cons_succ]
            refine wpAnyH_take (i := 6) (v := ?_) rfl (by kernel_rfl) (by kernel_rfl) (by kernel_rfl) (fun _ _ _ h => h) (Or.inl ⟨by rfl, ?_⟩) (by assumption) ?_
            rotate_left
            · intro w hSw
              go_simp
              try with_reducible rfl
            simp only [Act.put, List.getElem_toArray, List.getElem_cons_zero, List.getElem_cons_succ, List.setIfInBounds_toArray, List.set_cons_zero, List.set_cons_succ]
            refine wpAnyH_take (i := 7) (v := ?_) rfl (by kernel_rfl) (by kernel_rfl) (by kernel_rfl) (fun _ _ _ h => h) (Or.inl ⟨by rfl, ?_⟩) (by assumption) ?_
            rotate_left
            · intro w hSw
              go_simp
              try with_reducible rfl
            simp only [Act.put, List.getElem_toArray, List.getElem_cons_zero, List.getElem_cons_succ, List.setIfInBounds_toArray, List.set_cons_zero, List.set_cons_succ]
            refine wpAnyH_ready (rs := [3]) (by kernel_rfl) (by simp) ?_
            refine AllReadyH.cons rfl (fun K hK => ?_) AllReadyH.nil
            rw [if_pos (by kernel_rfl)]
            refine op_append_rowC stF Try.underlying55 infoSt rfl _ _ rfl w.heap.size 0 at_ (.slice none 0 0) [] (S.take at_) (by rfl) ⟨rfl, .inl ⟨rfl, rfl⟩⟩ _ _ (by rfl) RTH.out (by have h1 := HNS.out; have h2 := HA2.out; omega) (by have h1 := HNS.out; have h2 := HA2.out; unfold maxLen; omega) BT.out.bel.size ?_
            intro V6 w6 own6 g6 at6
            rw [Nat.zero_add, List.nil_append] at own6
            obtain ⟨a6, c6, rfl, -⟩ := own_slice own6
            have O6 := aside own6
            have b6 : Below W.heap.size W w6 := (Below.refl _ W).grown g6 (Nat.le_refl _) (fun k e => by cases e)
            have H6 := aside (show ∀ j, (Value.slice a6 at_ c6).ownBlock = some j → W.heap.size ≤ j from fun j hj => by
              rcases at6 with h | h
              · rw [hj] at h; cases h
              · rw [hj] at h; injection h with h; omega)
            have B6 := aside b6
            replace RTT := aside (RTT.out.on b6)
            refine hK.out _ _ trivial (fun hHeld => ?_)
            clear hK K own6 g6 at6 b6
            refine wpAnyH_ready (rs := [8]) (by kernel_rfl) (by simp) ?_
            refine AllReadyH.cons rfl (fun K hK => ?_) AllReadyH.nil
            rw [if_pos (by kernel_rfl)]
            refine op_append_rowC stF Try.underlying55 infoSt rfl _ _ rfl w.heap.size at_ m6 (.slice a6 at_ c6) (S.take at_) (S.drop k6) (by rfl) O6.out _ _ (by rfl) RTT.out (by have h1 := HNS.out; have h2 := HM6.out; omega) (by have h1 := HNS.out; have h2 := HM6.out; unfold maxLen; omega) (by have h1 := B6.out.size; have h2 := BT.out.bel.size; omega) ?_
            intro V7 w7 own7 g7 at7
            obtain ⟨a7, c7, rfl, -⟩ := own_slice own7
            have O7 := aside own7
            have b7 : Below W.heap.size W w7 := B6.out.grown g7 B6.out.size (fun k e => H6.out k e)
            refine hK.out _ _ trivial (fun hHeld => ?_)
            clear hK K own7 g7 at7 B6 H6 O6 RTT RTH
            refine wpAnyH_take (i := 9) (v := ?_) rfl (by kernel_rfl) (by kernel_rfl) (by kernel_rfl) (fun _ _ _ h => h) (Or.inl ⟨by rfl, ?_⟩) (by assumption) ?_
            rotate_left
            · intro w hSw
              go_simp
              try with_reducible rfl
            simp only [Act.put, List.getElem_toArray, List.getElem_cons_zero, List.getElem_cons_succ, List.setIfInBounds_toArray, List.set_cons_zero, List.set_cons_succ]
            refine wpAnyH_done (by kernel_rfl) ?_ _
            replace K1 := aside (blk_on K1.out b7)
            replace K3 := aside (blk_on K3.out b7)
            replace BT := aside (BT.out.on b7)
            replace K4 := aside (blk_on K4.out b7)
            replace D5 := aside (D5.out.on b7)
            have HN7 := aside (show (l.take at_ ++ l.drop (at_ + 1)).length = at_ + m6 from by
              rw [List.length_append, List.length_take, List.length_drop]
              have h1 := HN.out; have h2 := HM6.out; omega)
            clear b7 sl1 sl2 h5 hHeld RT
            obtain ⟨n7, hn7⟩ : ∃ y, at_ + m6 = y := ⟨_, rfl⟩
            rw [hn7] at O7 HN7 ⊢
            clear hn7
            obtain ⟨c0, c1, c2, c3, c4⟩ := five K1.out
            have sc := HC.out s2 (by have h1 := HEQ.out.2.1; have h2 := HKL.out; omega)
            obtain ⟨kd2, hkd2⟩ : ∃ y, (R s2).kind = y := ⟨_, rfl⟩
            obtain ⟨ix2, hix2⟩ : ∃ y, (R s2).i = y := ⟨_, rfl⟩
            obtain ⟨da2, hda2⟩ : ∃ y, (R s2).da = y := ⟨_, rfl⟩
            obtain ⟨dl2, hdl2⟩ : ∃ y, (R s2).dl = y := ⟨_, rfl⟩
            obtain ⟨dc2, hdc2⟩ : ∃ y, (R s2).dc = y := ⟨_, rfl⟩
            obtain ⟨m0, m1, m2, m3, m4⟩ := sc.1.keep BT.out.bel
            have hin2 := (sc.2.keep BT.out.bel).1
            rw [hkd2] at m0
            rw [HRS.out.1] at m1
            rw [HRS.out.2.1] at m2
            rw [hix2] at m3
            rw [hda2, hdl2, hdc2] at m4
            rw [hda2, hdl2, hdc2, HRS.out.2.2] at hin2
            have HIN3 := aside hin2
            clear sc hin2 hkd2 hix2 hda2 hdl2 hdc2
            obtain ⟨z0, z1⟩ := twoB K3.out
            have hs2 : (s2 : Int) < (len : Int) := by have h1 := HEQ.out.2.1; have h2 := HKL.out; omega
            have hs3 : (0 : Int) ≤ (s2 : Int) := by omega
            go_wp2_with fail
            refine (CK.out _).mono ?_
            rintro e W8 ⟨rfl, rfl⟩
            obtain ⟨W9, hW9⟩ : ∃ X, W8.alloc (.cells #[.int .i64 kd2, .int .i64 frm5, .int .i64 dst5, .int .i64 ix2, .slice da2 dl2 dc2] 34) = X := ⟨_, rfl⟩
            obtain ⟨q4, hq4⟩ : ∃ q, W8.heap.size = q := ⟨_, rfl⟩
            have b9 := bnew W8 (.cells #[.int .i64 kd2, .int .i64 frm5, .int .i64 dst5, .int .i64 ix2, .slice da2 dl2 dc2] 34)
            have k9 := heap_alloc_new W8 (.cells #[.int .i64 kd2, .int .i64 frm5, .int .i64 dst5, .int .i64 ix2, .slice da2 dl2 dc2] 34)
            rw [hW9] at b9 k9
            rw [hq4] at k9
            have X9 := aside (five k9)
            have X4 := aside (fourB (blk_on K4.out b9))
            have X3 := aside (twoB (blk_on K3.out b9))
            have CV1 := aside (dat_conv (D5.out.on b9))
            have CV2 := aside (byIn_conv (HIN3.out.on b9))
            dsimp only at CV1
            have DT := aside (D2.out.less (lost' := lost) HIN2.out (by omega) (BT.out.on b9) HN7.out.symm (by have h9 := own_on O7.out b9; rw [← HK6.out] at h9; exact h9))
            clear b9 k9 BT O7 K1 K3 K4 D5
            go_upto_region 26 with fail
            try rw [hW9]
            try rw [hq4]
            clear hW9 hq4 c0 c1 c2 c3 c4 m0 m1 m2 m3 m4 z0 z1
            obtain ⟨u0, u1, u2, u3, u4⟩ := X9.out
            obtain ⟨y0, y1, y2, y3⟩ := X4.out
            obtain ⟨z0, z1⟩ := X3.out
            have cv1 := CV1.out
            have cv2 := CV2.out
            clear X9 X4 X3 CV1 CV2
            as_aux_lemma =>
              have TL := aside (blen_any DT.out.st.bag)
              rw [HN7.out] at TL
              have TO := aside (blost_any DT.out.st.bag)
              go_wp2_with fail
              refine TL.out.mono ?_
              rintro e W9 ⟨rfl, rfl⟩
              go_wp2_with fail
              refine TO.out.mono ?_
              rintro e W9 ⟨rfl, rfl⟩
              go_wp2
              go_roundw
              case rel => exact ⟨k + 1, _, _, _, _, _, _, _, _, by first | rfl | go_num, by omega, rfl, rfl, by first | rfl | go_num, DT.out, HN7.out⟩
              case measure => simp [intOf] <;> omega
          · obtain rfl : at_ = n := by have := HA2.out; omega
            have hai : ¬ ((at_ : Int) < (at_ : Int)) := by omega
            go_wp2_with fail
            refine (btake_no D2.out.st.bag (at_ : Int) (.inr (by rw [HN.out]; exact Int.le_refl _))).mono ?_
            rintro e Y ⟨rfl, bb⟩
            unfold pk0
            have k4 := blk_on K2.out bb
            have f0 := frozen_of_row Y q2 0 _ _ k4
            have f1 := frozen_of_row Y q2 1 _ _ k4
            have f2 := frozen_of_row Y q2 2 _ _ k4
            have f3 := frozen_of_row Y q2 3 _ _ k4
            obtain ⟨y0, y1, y2, y3⟩ := fourB k4
            obtain ⟨Z, hZ⟩ : ∃ Z, (((Y.setCell ⟨q2, 0, none⟩ (.int .i64 0)).setCell ⟨q2, 1, none⟩ (.int .i64 0)).setCell ⟨q2, 2, none⟩ (.int .i64 0)).setCell ⟨q2, 3, none⟩ (.slice none 0 0) = Z := ⟨_, rfl⟩
            have kz : Keeps (fun x => x = q2) Y Z := by rw [← hZ]; exact setFour_keeps Y q2 _ _ _ _
            have DT := aside (((D2.out.on bb).store k4 HQ2.out.1 HQ2.out.2 kz).next)
            clear bb k4 kz c0 c1 c2 c3 c4
            go_upto_region 18 with fail
            try rw [hZ]
            clear hZ y0 y1 y2 y3 f0 f1 f2 f3
            as_aux_lemma =>
              have TL := aside (blen_any DT.out.st.bag)
              rw [HN.out] at TL
              have TO := aside (blost_any DT.out.st.bag)
              go_wp2_with fail
              refine TL.out.mono ?_
              rintro e W9 ⟨rfl, rfl⟩
              go_wp2_with fail
              refine TO.out.mono ?_
              rintro e W9 ⟨rfl, rfl⟩
              go_wp2
              go_roundw
              case rel => exact ⟨k + 1, _, _, _, _, _, _, _, _, by first | rfl | go_num, by omega, rfl, rfl, rfl, DT.out, HN.out⟩
              case measure => simp [intOf] <;> omega
      | 3, _ =>
        as_aux_lemma =>
          obtain ⟨at_, hat, hat2⟩ := amg_lt ix (m := n + 1) (by omega)
          have HNS := aside (show n ≤ 512 from by have h1 := D1.out.st.bag.le; have h2 := D1.out.st.bag.r2; rw [HN.out] at h1; omega)
          have CA := fun W => amgs (n + 1) (by omega) (by have := HNS.out; omega) ix W
          rw [hat] at CA
          have hwn : IntKind.i64.wrap ((n : Int) + 1) = ((n + 1 : Nat) : Int) := by have := HNS.out; simp only [IntKind.wrap_i64]; omega
          obtain ⟨n1, hn1⟩ : ∃ y, n + 1 = y := ⟨_, rfl⟩
          rw [hn1] at CA hwn hat2
          replace CA := aside CA
          have HA2 := aside (show at_ ≤ n from by omega)
          clear hat hn1 hat2
          go_wp2_with fail
          refine (CA.out _).mono ?_
          rintro e X1'' ⟨rfl, rfl⟩
          clear hwn
          obtain ⟨X2, hX2⟩ : ∃ X, X1''.alloc (.cells #[.int .i64 0, .int .i64 0, .int .i64 0, .slice none 0 0] 39) = X := ⟨_, rfl⟩
          obtain ⟨q2, hq2⟩ : ∃ q, X1''.heap.size = q := ⟨_, rfl⟩
          have b2 := bnew X1'' (.cells #[.int .i64 0, .int .i64 0, .int .i64 0, .slice none 0 0] 39)
          have k2 := heap_alloc_new X1'' (.cells #[.int .i64 0, .int .i64 0, .int .i64 0, .slice none 0 0] 39)
          rw [hX2] at b2 k2
          rw [hq2] at k2
          have K2 := aside k2
          have D2 := aside (D1.out.on b2)
          have HB2 := aside D2.out.st.bel
          have HQ2 := aside (show w.heap.size ≤ q2 ∧ ∀ j, v.ownBlock = some j → j < q2 from ⟨by rw [← hq2]; exact HB1.out.size, fun j hj => by rw [← hq2]; exact (D1.out.st.bag.row.lt j hj).2⟩)
          have KO := aside (blk_on K1.out b2)
          have C1 := aside K1.out
          have HQ12 := aside (show q1 ≠ q2 from fun e => by have h2 := KO.out; rw [e, K2.out] at h2; simp at h2)
          have NB := aside (show ¬ BgS b v q1 ∧ ¬ BgS b v q2 from by
            refine ⟨fun hs => ?_, fun hs => ?_⟩
            · rcases hs with h | h
              · have h2 := D2.out.st.bag.bx
                rw [← h, KO.out] at h2
                simp at h2
              · exact own_typed D2.out.st.bag.row KO.out (by decide) h
            · rcases hs with h | h
              · have h2 := D2.out.st.bag.bx
                rw [← h, K2.out] at h2
                simp at h2
              · have := HQ2.out.2 _ h; omega)
          clear c0 c1 c2 c3 c4 b2 k2 D1 K1 HB1
          obtain ⟨c0, c1, c2, c3, c4⟩ := five C1.out
          have EX2 := aside hX2
          have EQ2 := aside hq2
          clear hX2 hq2
          go_upto_region 15 with fail
          rw [EX2.out, EQ2.out]
          clear EX2 EQ2 c0 c1 c2 c3 c4
          obtain ⟨c0, c1, c2, c3, c4⟩ := five KO.out
          go_wp2_with fail
          refine (CK.out _).mono ?_
          rintro e X2' ⟨rfl, rfl⟩
          by_cases hlt : at_ < n
          · have hai : (at_ : Int) < (n : Int) := by omega
            have hin : at_ < l.length := by rw [HN.out]; exact hlt
            obtain ⟨p, hp⟩ : ∃ p, l[at_]? = some p := ⟨l[at_], List.getElem?_eq_getElem hin⟩
            obtain ⟨s, hs⟩ : ∃ s, S[at_]? = some s := ⟨S[at_]'(by rw [D2.out.len]; exact hin), List.getElem?_eq_getElem _⟩
            have HP := aside hp
            have HS := aside hs
            have HEQ := aside (D2.out.eq at_ p s hp hs)
            have HIN2 := aside hin
            have HLT := aside hlt
            clear hp hs hin hlt
            obtain ⟨s1, s2⟩ := s
            dsimp only at HEQ
            go_wp2_with fail
            refine (bdrop_yes D2.out.st.bag at_ HIN2.out HSM.out.2 HB2.out.size).mono ?_
            rintro e Z ⟨rfl, v5, hb, kk, hx⟩
            have K1 := aside (blk_keep KO.out kk NB.out.1)
            obtain ⟨bt, rt⟩ := D2.out.part kk hb (fun j hj => .inl (hx j hj)) K2.out HQ2.out.1 HQ2.out.2 (Keeps.refl _ Z)
            have BT := aside bt
            have RT := aside rt
            clear hb kk hx bt rt c0 c1 c2 c3 c4
            have hr := RT.out
            rw [HN.out] at hr
            obtain ⟨g, c, e1, z0, z1⟩ := st_at hr HS.out
            injection e1 with e1 _ e3
            subst e1 e3
            dsimp only at z0 z1
            clear hr
            have hai0 : (0 : Int) ≤ (at_ : Int) := by omega
            obtain ⟨Z2, hZ2⟩ : ∃ X, Z.alloc (.cells #[.int .i64 s1, .int .i64 (s2 : Int)] 57) = X := ⟨_, rfl⟩
            obtain ⟨q3, hq3⟩ : ∃ q, Z.heap.size = q := ⟨_, rfl⟩
            have b3 := bnew Z (.cells #[.int .i64 s1, .int .i64 (s2 : Int)] 57)
            have k3 := heap_alloc_new Z (.cells #[.int .i64 s1, .int .i64 (s2 : Int)] 57)
            rw [hZ2] at b3 k3
            rw [hq3] at k3
            have bz := bthen b3 (Below.refl Z2.heap.size Z2).drew
            replace K1 := aside (blk_on K1.out bz)
            have K3 := aside (blk_on k3 (Below.refl Z2.heap.size Z2).drew)
            replace BT := aside (BT.out.on bz)
            replace RT := aside (own_on RT.out bz)
            have hr := RT.out
            rw [HN.out] at hr
            have h5 : IntKind.i64.wrap ((at_ : Int) + 1) = ((at_ + 1 : Nat) : Int) := by have h1 := HNS.out; have h2 := HA2.out; simp only [IntKind.wrap_i64]; omega
            obtain ⟨aT, cT, sl1, sl2, rT, rH⟩ := st_parts hr (k := at_) (by have := HLT.out; omega)
            have RTT := aside rT
            have RTH := aside rH
            obtain ⟨k6, hk6⟩ : ∃ y, at_ + 1 = y := ⟨_, rfl⟩
            obtain ⟨m6, hm6⟩ : ∃ y, n - k6 = y := ⟨_, rfl⟩
            have HM6 := aside (show at_ + m6 + 1 = n from by have := HLT.out; omega)
            have HK6 := aside hk6
            rw [hk6] at sl1 h5 RTT
            rw [hm6] at sl1 RTT
            clear b3 k3 bz hr rT rH hk6 hm6
            go_upto_region 22 with fail
            try rw [hZ2]
            try rw [hq3]
            clear hZ2 hq3 z0 z1
            refine wp_region_held_drew (S := fun _ => True) (by kernel_rfl) trivial (fun hHeld => ?_)
            generalize Z2.drew = W at K1 K3 BT RT RTT RTH ⊢
            refine wpAnyH_take (i := 0) (v := ?_) rfl (by kernel_rfl) (by kernel_rfl) (by kernel_rfl) (fun _ _ _ h => h) (Or.inl ⟨by rfl, ?_⟩) (by assumption) ?_
            rotate_left
            · intro w hSw
              go_simp
              try with_reducible rfl
            simp only [Act.put, List.getElem_toArray, List.getElem_cons_zero, List.setIfInBounds_toArray, List.set_cons_zero, List.set_cons_succ]
            refine wpAnyH_take (i := 1) (v := ?_) rfl (by kernel_rfl) (by kernel_rfl) (by kernel_rfl) (fun _ _ _ h => h) (Or.inl ⟨by rfl, ?_⟩) (by assumption) ?_
            rotate_left
            · intro w hSw
              go_simp
              try with_reducible rfl
            simp only [Act.put, List.getElem_toArray, List.getElem_cons_zero, List.getElem_cons_succ, List.setIfInBounds_toArray, List.set_cons_zero, List.set_cons_succ]
            refine wpAnyH_take (i := 2) (v := ?_) rfl (by kernel_rfl) (by kernel_rfl) (by kernel_rfl) (fun _ _ _ h => h) (Or.inl ⟨by rfl, ?_⟩) (by assumption) ?_
            rotate_left
            · intro w hSw
              go_simp
              try with_reducible rfl
            simp only [Act.put, List.getElem_toArray, List.getElem_cons_zero, List.getElem_cons_succ, List.setIfInBounds_toArray, List.set_cons_zero, List.set_cons_succ]
            refine wpAnyH_take (i := 4) (v := ?_) rfl (by kernel_rfl) (by kernel_rfl) (by kernel_rfl) (fun _ _ _ h => h) (Or.inl ⟨by rfl, ?_⟩) (by assumption) ?_
            rotate_left
            · intro w hSw
              go_simp
              try with_reducible rfl
            simp only [Act.put, List.getElem_toArray, List.getElem_cons_zero, List.getElem_cons_succ, List.setIfInBounds_toArray, List.set_cons_zero, List.set_cons_succ]
            refine wpAnyH_take (i := 5) (v := ?_) rfl (by kernel_rfl) (by kernel_rfl) (by kernel_rfl) (fun _ _ _ h => h) (Or.inl ⟨by rfl, ?_⟩) (by assumption) ?_
            rotate_left
            · intro w hSw
              go_simp
              try with_reducible rfl
            simp only [Act.put, List.getElem_toArray, List.getElem_cons_zero, List.getElem_cons_succ, List.setIfInBounds_toArray, List.set_cons_zero, List.set_cons_succ]
            refine wpAnyH_take (i := 6) (v := ?_) rfl (by kernel_rfl) (by kernel_rfl) (by kernel_rfl) (fun _ _ _ h => h) (Or.inl ⟨by rfl, ?_⟩) (by assumption) ?_
            rotate_left
            · intro w hSw
              go_simp
              try with_reducible rfl
            simp only [Act.put, List.getElem_toArray, List.getElem_cons_zero, List.getElem_cons_succ, List.setIfInBounds_toArray, List.set_cons_zero, List.set_cons_succ]
            refine wpAnyH_take (i := 7) (v := ?_) rfl (by kernel_rfl) (by kernel_rfl) (by kernel_rfl) (fun _ _ _ h => h) (Or.inl ⟨by rfl, ?_⟩) (by assumption) ?_
            rotate_left
            · intro w hSw
              go_simp
              try with_reducible rfl
            simp only [Act.put, List.getElem_toArray, List.getElem_cons_zero, List.getElem_cons_succ, List.setIfInBounds_toArray, List.set_cons_zero, List.set_cons_succ]
            refine wpAnyH_ready (rs := [3]) (by kernel_rfl) (by simp) ?_
            refine AllReadyH.cons rfl (fun K hK => ?_) AllReadyH.nil
            rw [if_pos (by kernel_rfl)]
            refine op_append_rowC stF Try.underlying55 infoSt rfl _ _ rfl w.heap.size 0 at_ (.slice none 0 0) [] (S.take at_) (by rfl) ⟨rfl, .inl ⟨rfl, rfl⟩⟩ _ _ (by rfl) RTH.out (by have h1 := HNS.out; have h2 := HA2.out; omega) (by have h1 := HNS.out; have h2 := HA2.out; unfold maxLen; omega) BT.out.bel.size ?_
            intro V6 w6 own6 g6 at6
            rw [Nat.zero_add, List.nil_append] at own6
            obtain ⟨a6, c6, rfl, -⟩ := own_slice own6
            have O6 := aside own6
            have b6 : Below W.heap.size W w6 := (Below.refl _ W).grown g6 (Nat.le_refl _) (fun k e => by cases e)
            have H6 := aside (show ∀ j, (Value.slice a6 at_ c6).ownBlock = some j → W.heap.size ≤ j from fun j hj => by
              rcases at6 with h | h
              · rw [hj] at h; cases h
              · rw [hj] at h; injection h with h; omega)
            have B6 := aside b6
            replace RTT := aside (RTT.out.on b6)
            refine hK.out _ _ trivial (fun hHeld => ?_)
            clear hK K own6 g6 at6 b6
            refine wpAnyH_ready (rs := [8]) (by kernel_rfl) (by simp) ?_
            refine AllReadyH.cons rfl (fun K hK => ?_) AllReadyH.nil
            rw [if_pos (by kernel_rfl)]
            refine op_append_rowC stF Try.underlying55 infoSt rfl _ _ rfl w.heap.size at_ m6 (.slice a6 at_ c6) (S.take at_) (S.drop k6) (by rfl) O6.out _ _ (by rfl) RTT.out (by have h1 := HNS.out; have h2 := HM6.out; omega) (by have h1 := HNS.out; have h2 := HM6.out; unfold maxLen; omega) (by have h1 := B6.out.size; have h2 := BT.out.bel.size; omega) ?_
            intro V7 w7 own7 g7 at7
            obtain ⟨a7, c7, rfl, -⟩ := own_slice own7
            have O7 := aside own7
            have b7 : Below W.heap.size W w7 := B6.out.grown g7 B6.out.size (fun k e => H6.out k e)
            refine hK.out _ _ trivial (fun hHeld => ?_)
            clear hK K own7 g7 at7 B6 H6 O6 RTT RTH
            refine wpAnyH_take (i := 9) (v := ?_) rfl (by kernel_rfl) (by kernel_rfl) (by kernel_rfl) (fun _ _ _ h => h) (Or.inl ⟨by rfl, ?_⟩) (by assumption) ?_
            rotate_left
            · intro w hSw
              go_simp
              try with_reducible rfl
            simp only [Act.put, List.getElem_toArray, List.getElem_cons_zero, List.getElem_cons_succ, List.setIfInBounds_toArray, List.set_cons_zero, List.set_cons_succ]
            refine wpAnyH_done (by kernel_rfl) ?_ _
            replace K1 := aside (blk_on K1.out b7)
            replace K3 := aside (blk_on K3.out b7)
            replace BT := aside (BT.out.on b7)
            have HN7 := aside (show (l.take at_ ++ l.drop (at_ + 1)).length = at_ + m6 from by
              rw [List.length_append, List.length_take, List.length_drop]
              have h1 := HN.out; have h2 := HM6.out; omega)
            clear b7 sl1 sl2 h5 hHeld RT
            obtain ⟨n7, hn7⟩ : ∃ y, at_ + m6 = y := ⟨_, rfl⟩
            rw [hn7] at O7 HN7 ⊢
            clear hn7
            obtain ⟨c0, c1, c2, c3, c4⟩ := five K1.out
            have DT := aside (D2.out.less (lost' := lost + 1) HIN2.out (by omega) BT.out HN7.out.symm (by have h9 := O7.out; rw [← HK6.out] at h9; exact h9))
            have hwl : IntKind.i64.wrap ((lost : Int) + 1) = (lost : Int) + 1 := by have := HSM.out.2; simp only [IntKind.wrap_i64]; omega
            clear BT O7 K1 K3
            go_wp2_with fail
            refine (CK.out _).mono ?_
            rintro e W8 ⟨rfl, rfl⟩
            as_aux_lemma =>
              have TL := aside (blen_any DT.out.st.bag)
              rw [HN7.out] at TL
              have TO := aside (blost_any DT.out.st.bag)
              rw [show ((lost + 1 : Nat) : Int) = (lost : Int) + 1 from by omega] at TO
              go_wp2_with fail
              refine TL.out.mono ?_
              rintro e W9 ⟨rfl, rfl⟩
              go_wp2_with fail
              refine TO.out.mono ?_
              rintro e W9 ⟨rfl, rfl⟩
              go_wp2
              go_roundw
              case rel => exact ⟨k + 1, _, _, _, _, _, _, _, _, by first | rfl | go_num, by omega, rfl, rfl, by first | rfl | go_num, DT.out, HN7.out⟩
              case measure => simp [intOf] <;> omega
          · obtain rfl : at_ = n := by have := HA2.out; omega
            have hai : ¬ ((at_ : Int) < (at_ : Int)) := by omega
            go_wp2_with fail
            refine (bdrop_no D2.out.st.bag (at_ : Int) (.inr (by rw [HN.out]; exact Int.le_refl _))).mono ?_
            rintro e Y ⟨rfl, rfl⟩
            have DT := aside D2.out.next
            clear c0 c1 c2 c3 c4
            as_aux_lemma =>
              have TL := aside (blen_any DT.out.st.bag)
              rw [HN.out] at TL
              have TO := aside (blost_any DT.out.st.bag)
              go_wp2_with fail
              refine TL.out.mono ?_
              rintro e W9 ⟨rfl, rfl⟩
              go_wp2_with fail
              refine TO.out.mono ?_
              rintro e W9 ⟨rfl, rfl⟩
              go_wp2
              go_roundw
              case rel => exact ⟨k + 1, _, _, _, _, _, _, _, _, by first | rfl | go_num, by omega, rfl, rfl, rfl, DT.out, HN.out⟩
              case measure => simp [intOf] <;> omega
    · have hkl : k = len := by omega
      go_wp2
      go_ret
      exact ⟨rfl, HB.out⟩
end Go.Proofs.Yteaaamhojiognaa

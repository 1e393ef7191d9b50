/-
  The law GhostUpward, walked.
-/
import Derived.Test.YtfkdhambbpkmpaaGuW
namespace Go.Proofs.Ytfkdhambbpkmpaa
open Go.RowKit
set_option linter.unusedVariables false

set_option maxHeartbeats 32000000 in
set_option maxRecDepth 100000 in
theorem gup_walk (a0 : Option Addr) (len0 cap0 : Nat) (T0 : Nat → En) (a1 : Option Addr) (len1 cap1 : Nat) (T1 : Nat → Ll) (node : Int) (w : World) (g0 : EntsIn w a0 len0 cap0 T0) (g1 : LlsIn w a1 len1 cap1 T1) :
    Calls Try.prog 4 #[.slice a0 len0 cap0, .slice a1 len1 cap1, .int .i64 node] w fun e w' => e = .returned (.bool true) ∧ Below w.heap.size w w' := by
  have G0 := aside g0
  have G1 := aside g1
  have hm0 : (len0 : Int) ≤ 9223372036854775807 := by have h1 := g0.1; have h2 := g0.2.1; unfold maxLen at h2; omega
  have hm1 : (len1 : Int) ≤ 9223372036854775807 := by have h1 := g1.1; have h2 := g1.2.1; unfold maxLen at h2; omega
  have HMX := aside (show len0 ≤ maxLen from by have h1 := g0.1; have h2 := g0.2.1; omega)
  have WF := aside (weigh19_any a0 len0 cap0 T0 w g0)
  clear g0 g1
  go_enter Try.func4, Try.ntmps4
  go_wp2_with fail
  refine WF.out.mono ?_
  rintro e w1 ⟨z1, rfl, hz1, hz2, b1⟩
  have B1 := aside b1
  have HZ1 := aside hz2
  clear b1 hz2 WF
  go_wp2_with fail
  go_loopw [7, 8] (fun u i wr => ∃ (k : Nat) (c : Int), u = .int .i64 c ∧ i = .int .i64 (k : Int) ∧ k ≤ len1 ∧ 0 ≤ c ∧ c ≤ 8589934592 ∧ Hid (c < 4194304 → (z1 : Int) ≤ c ∧ ∀ i, i < k → (T1 i).n ≤ 1073741823) ∧ Below w.heap.size w wr) (fun _ i _ => len1 - (intOf i).toNat)
  case atStart => exact ⟨0, _, rfl, rfl, Nat.zero_le _, by omega, by omega, fun _ => ⟨Int.le_refl _, fun i hi => by omega⟩, B1.out⟩
  case round =>
    obtain ⟨k, c, rfl, rfl, hk, hc0, hc1, HS, hB⟩ := hrel
    have HB := aside hB
    clear hB B1
    by_cases hlt : (k : Int) < (len1 : Int)
    · have hk0 : (0 : Int) ≤ (k : Int) := by omega
      by_cases hle : c < 4194304
      · obtain ⟨bl, off, ha, hb, hc⟩ : ∃ b off, a1 = some ⟨b, off, none⟩ ∧ b < w.heap.size ∧ ∀ i, i < len1 → w.cell? ⟨b, off + i, none⟩ = some (.slice (T1 i).a (T1 i).n (T1 i).c) ∧ LlIn w (T1 i) := by
          rcases G1.out.2.2 with h0 | h0
          · omega
          · exact h0
        subst ha
        have c0 := cell_in (hc k (by omega)).1 HB.out
        have WK := aside (weigh19_any (T1 k).a (T1 k).n (T1 k).c (T1 k).T wr ((hc k (by omega)).2.1.keep HB.out))
        obtain ⟨nk, hnk⟩ : ∃ n, (T1 k).n = n := ⟨_, rfl⟩
        have HNK := aside hnk
        rw [hnk] at c0 WK
        clear hb hc hnk
        go_wp2_with fail
        refine WK.out.mono ?_
        rintro e w2 ⟨q, rfl, hq, hq2, b2⟩
        have B2 := aside (bthen HB.out b2)
        have hw1 : IntKind.i64.wrap (1 + (q : Int)) = 1 + (q : Int) := by rw [IntKind.wrap_i64]; omega
        have hw2 : IntKind.i64.wrap (c + (1 + (q : Int))) = c + (1 + (q : Int)) := by rw [IntKind.wrap_i64]; omega
        have HQ2 := aside hq2
        clear b2 c0 WK hq2
        go_wp2
        go_roundw
        case rel => exact ⟨k + 1, c + (1 + (q : Int)), rfl, by first | rfl | go_num, by omega, by omega, by omega, fun h => ⟨by have := (HS.out (by omega)).1; omega, fun i hi => by
          by_cases h9 : i = k
          · rw [h9, HNK.out]; have := HQ2.out (by omega); omega
          · exact (HS.out (by omega)).2 i (by omega)⟩, B2.out⟩
        case measure => simp [intOf] <;> omega
      · have hge : (4194304 : Int) ≤ c := by omega
        go_wp2
        go_ret
        exact ⟨rfl, HB.out⟩
    · have hkl : len1 = k := by omega
      subst hkl
      by_cases hle : c < 4194304
      case neg =>
        have hge : (4194304 : Int) ≤ c := by omega
        go_wp2
        go_ret
        exact ⟨rfl, HB.out⟩
      have hge : ¬ (4194304 : Int) ≤ c := by omega
      have HN1 := aside (HS.out hle).2
      clear hle hc0 hc1 HS
      as_aux_lemma =>
      go_wp2_with fail
      refine (gnew_any _).mono ?_
      rintro e w3 ⟨p, m, rfl, hg, b3⟩
      have HB3 := aside (bthen HB.out b3)
      obtain ⟨B, hBe⟩ : ∃ B, wr.heap.size = B := ⟨_, rfl⟩
      have HBW := aside (show w.heap.size ≤ B from by rw [← hBe]; exact HB.out.size)
      have G3 := aside (show Gh w3 B p m 0 [] (fun _ => hd0) from by rw [← hBe]; exact hg)
      have HBS := aside (show B ≤ w3.heap.size from by rw [← hBe]; exact b3.size)
      clear hg b3 hBe HB
      go_wp2_with fail
      go_loopw [10] (fun i wr => ∃ (k : Nat) (L : List En), i = .int .i64 (k : Int) ∧ k ≤ len0 ∧ Hid (Gh wr B p m k L (fun _ => hd0)) ∧ Below w.heap.size w wr) (fun i _ => len0 - (intOf i).toNat)
      case atStart => exact ⟨0, [], rfl, Nat.zero_le _, G3.out, HB3.out⟩
      case round =>
        clear G3 HB3
        obtain ⟨k, L, rfl, hk, HG, hB⟩ := hrel
        have HB := aside hB
        clear hB
        by_cases hlt : (k : Int) < (len0 : Int)
        · have hk0 : (0 : Int) ≤ (k : Int) := by omega
          rcases G0.out.2.2 with h0 | ⟨bl, off, rfl, hb, hc⟩
          · omega
          obtain ⟨x, hx⟩ : ∃ x, T0 k = x := ⟨_, rfl⟩
          have F1 := aside (ents_five (G0.out.keep HB.out) (by omega) hx)
          have HXK := aside (show x.k.size ≤ 140737488351232 from by rw [← hx]; exact (hc k (by omega)).2)
          obtain ⟨f0, f1, f2, f3, f4⟩ := F1.out
          have CW := aside (gwrote_any HG.out x HXK.out (by have := HMX.out; omega))
          clear hb hc hx
          go_wp2_with fail
          refine CW.out.mono ?_
          rintro e w5 ⟨rfl, hG, hk5⟩
          have G5 := aside hG
          have B5 := aside (HB.out.trans (hk5.below HB.out.size (fun j hj e => by have h1 := hG.mB; have h2 := HBW.out; omega)))
          clear hG hk5 f0 f1 f2 f3 f4 CW
          go_wp2
          go_roundw
          case rel => exact ⟨k + 1, _, by first | rfl | go_num, by omega, G5.out, B5.out⟩
          case measure => simp [intOf] <;> omega
        · have LE := aside (own_emptyU wr B (by have h1 := HG.out; have h2 := lt_of_blk h1.bx; have h3 := h1.pB; omega))
          have BE := bnew wr (.cells #[] 31)
          have GE := aside (HG.out.on BE)
          have HBE := aside (bthen HB.out BE)
          clear BE HG HB
          obtain ⟨VE, hVE⟩ : ∃ V, wr.alloc (.cells #[] 31) = V := ⟨_, rfl⟩
          rw [hVE] at LE GE HBE
          as_aux_lemma =>
          go_upto_region 14 with fail
          try rw [hVE]
          clear hVE hlt hk
          go_wp2_with fail
          go_loopw [11, 12] (fun vl i wr => ∃ (j : Nat) (H : Nat → Hd) (al : Option Addr) (cl : Nat), vl = .slice al (heldG H node).l.length cl ∧ i = .int .i64 (j : Int) ∧ j ≤ len1 ∧ Hid (Gh wr B p m k L H) ∧ Hid (wr.ownsRow B 31 5 (.slice al (heldG H node).l.length cl) (heldG H node).l.length (entCells (heldG H node).l)) ∧ Hid (MapL (heldG H node).l ∧ (heldG H node).l.length ≤ 1073741824 ∧ ∀ e ∈ (heldG H node).l, e ∈ L) ∧ Below w.heap.size w wr) (fun _ i _ => len1 - (intOf i).toNat)
          case atStart => exact ⟨0, fun _ => hd0, some ⟨_, 0, none⟩, 0, by unfold heldG; simp only [ite_self]; rfl, rfl, Nat.zero_le _, GE.out, by unfold heldG; simp only [ite_self]; exact LE.out, by unfold heldG; simp only [ite_self]; exact ⟨MapL.nil, Nat.zero_le _, fun e he => by cases he⟩, HBE.out⟩
          case round =>
            clear GE LE HBE
            obtain ⟨j, H, al, cl, rfl, rfl, hj, HG, HR, HM, hB⟩ := hrel
            have HB := aside hB
            clear hB
            by_cases hlt : (j : Int) < (len1 : Int)
            · have hj0 : (0 : Int) ≤ (j : Int) := by omega
              obtain ⟨bl, off, ha, hb, hc⟩ : ∃ b off, a1 = some ⟨b, off, none⟩ ∧ b < w.heap.size ∧ ∀ i, i < len1 → w.cell? ⟨b, off + i, none⟩ = some (.slice (T1 i).a (T1 i).n (T1 i).c) ∧ LlIn w (T1 i) := by
                rcases G1.out.2.2 with h0 | h0
                · omega
                · exact h0
              subst ha
              have hcj := hc j (by omega)
              have C0 := aside (fun (W : World) (bb : Below w.heap.size w W) => cell_in hcj.1 bb)
              have HTJ := aside hcj.2
              have HNJ := aside (HN1.out j (by omega))
              generalize T1 j = t at C0 HTJ HNJ
              have HBG := aside (show B ≤ wr.heap.size from by have h2 := lt_of_blk HG.out.bx; have h3 := HG.out.pB; omega)
              have CS := aside (gsees_all HG.out node t.a t.n t.c t.T (HTJ.out.1.keep HB.out) HTJ.out.2 (by have := HNJ.out; omega) HBG.out)
              have c0 := C0.out _ HB.out
              obtain ⟨l0, hl0⟩ : ∃ l, (heldG H node).l = l := ⟨_, rfl⟩
              rw [hl0] at HR HM ⊢
              have HL0 := aside hl0
              have HLJ := aside (show j < len1 from by omega)
              clear hb hc hcj hj
              obtain ⟨nl, hnl⟩ : ∃ n, l0.length = n := ⟨_, rfl⟩
              have HNL := aside hnl
              rw [hnl] at HR HM ⊢
              clear hl0 hnl
              go_wp2_with fail
              refine CS.out.mono ?_
              rintro e w9 ⟨kk, cc, rfl, hbs, hcs⟩
              have B9 := aside (HB.out.trans (hbs.below HB.out.size (fun j hj e => by have h1 := HG.out.pB; have h2 := HBW.out; omega)))
              have R9 := aside (ownsRow_keep HR.out hbs (fun r hr e => by
                obtain ⟨-, cs, h3⟩ := row_blkM HR.out hr
                rw [e, HG.out.bx] at h3
                injection h3 with h3
                injection h3 with _ h3
                exact absurd h3 (by decide)))
              have HCS := aside hcs
              clear hbs hcs CS c0 HR
              -- whatever came of it: the ghost now, and what it held ahead
              obtain ⟨H2, G9, HCASE⟩ : ∃ H2, Hid (Gh w9 B p m k L H2) ∧ Hid ((¬ cc = 0 ∧ (heldG H2 node).l = l0) ∨ (cc = 0 ∧ (heldG H2 node).l = firstE t.T t.n ∧ abL (heldG H2 node).l l0 = true ∧ ∀ e ∈ (heldG H2 node).l, e ∈ L)) := by
                rcases HCS.out with ⟨h1, h2⟩ | ⟨h1, H', h2, h3, h4, h5, h6, h7⟩
                · exact ⟨H, h2, .inl ⟨h1, HL0.out⟩⟩
                · exact ⟨H', h2, .inr ⟨h1, h3, by rw [h3, ← HL0.out]; exact h5, by rw [h3]; exact h7⟩⟩
              clear HCS HG
              have CH := aside (gheld_any G9.out node)
              have ML := aside (G9.out.one node)
              obtain ⟨ln, hln⟩ : ∃ l, (heldG H2 node).l = l := ⟨_, rfl⟩
              obtain ⟨nn, hnn⟩ : ∃ n, (heldG H2 node).n = n := ⟨_, rfl⟩
              rw [hln] at HCASE
              have HLN := aside hln
              have HNN := aside (show ln.length = nn ∧ MapL ln ∧ nn ≤ 1073741824 from by
                have h1 := ML.out.1.1
                rw [entCells_length, hln, hnn] at h1
                exact ⟨by omega, by rw [← hln]; exact ML.out.2.1, by rw [← hnn]; exact ML.out.2.2⟩)
              rw [hln, hnn] at CH
              clear hln hnn ML
              have HUP := aside (show abL ln l0 = true ∧ ∀ e ∈ ln, e ∈ L from by
                rcases HCASE.out with ⟨-, h2⟩ | ⟨-, -, h3, h4⟩
                · rw [h2]; exact ⟨ab_self l0, HM.out.2.2⟩
                · exact ⟨h3, h4⟩)
              go_wp2_with fail
              refine CH.out.mono ?_
              rintro e w10 ⟨an, cn, rfl, ho, b10⟩
              have B10 := aside (bthen B9.out b10)
              have G10 := aside (G9.out.on b10)
              have R10 := aside (own_on R9.out b10)
              have O10 := aside (own_low ho (show B ≤ w9.heap.size from by have h2 := lt_of_blk G9.out.bx; have h3 := G9.out.pB; omega))
              clear ho b10 CH R9 G9
              obtain ⟨TN, hTN, hTNl, -⟩ := entsG_of O10.out (mapKeys HNN.out.2.1)
              obtain ⟨TL, hTL, hTLl, -⟩ := entsG_of R10.out (mapKeys HM.out.1)
              have HTN := aside hTN
              have HTL := aside hTL
              have HTNL := aside (show firstE TN nn = ln ∧ firstE TL nl = l0 from ⟨hTNl, hTLl⟩)
              have CA := aside (mabove_any an nn cn TN al nl cl TL w10 hTN hTL (by have h1 := HNN.out.2.2; have h2 := HM.out.2.1; omega))
              have hck : ck2 TN nn TL nl = 0 := ck2_ok.2 ⟨by rw [hTNl]; exact HNN.out.2.1, by rw [hTLl]; exact HM.out.1⟩
              rw [hck, hTNl, hTLl] at CA
              have hav : aboveV 0 (prs ln l0) = true := by unfold aboveV; rw [if_pos rfl]; exact HUP.out.1
              rw [hav] at CA
              clear hTN hTL hTNl hTLl hck hav
              go_wp2_with fail
              refine CA.out.mono ?_
              rintro e w11 ⟨rfl, b11⟩
              have B11 := aside (bthen B10.out b11)
              have G11 := aside (G10.out.on b11)
              have O11 := aside (own_on O10.out b11)
              replace HTN := aside (HTN.out.keep b11)
              replace HTL := aside (HTL.out.keep b11)
              clear b11 CA R10 G10 O10
              -- same, with the list that came or with the last one
              obtain ⟨as2, ls2, cs2, TS2, hS2, hSl, hcond⟩ : ∃ as2 ls2 cs2 TS2, Hid (EntsIn w11 as2 ls2 cs2 TS2) ∧ Hid (firstE TN nn = firstE TS2 ls2) ∧ Hid ((¬ cc = 0 ∧ as2 = al ∧ ls2 = nl ∧ cs2 = cl) ∨ (cc = 0 ∧ as2 = t.a ∧ ls2 = t.n ∧ cs2 = t.c)) := by
                rcases HCASE.out with ⟨h1, h2⟩ | ⟨h1, h2, -, -⟩
                · exact ⟨al, nl, cl, TL, HTL.out, by show firstE TN nn = firstE TL nl; rw [HTNL.out.1, HTNL.out.2]; exact h2, .inl ⟨h1, rfl, rfl, rfl⟩⟩
                · exact ⟨t.a, t.n, t.c, t.T, HTJ.out.1.keep B11.out, by show firstE TN nn = firstE t.T t.n; rw [HTNL.out.1]; exact h2, .inr ⟨h1, rfl, rfl, rfl⟩⟩
              have CSM := aside (same19_yes an nn cn TN as2 ls2 cs2 TS2 w11 HTN.out hS2.out hSl.out)
              have c0 := C0.out _ B11.out
              by_cases hcc : cc = 0
              · have e2 : as2 = t.a ∧ ls2 = t.n ∧ cs2 = t.c := by
                  rcases hcond.out with ⟨h1, -⟩ | ⟨-, h2⟩
                  · exact absurd hcc h1
                  · exact h2
                obtain ⟨rfl, rfl, rfl⟩ := e2
                subst hcc
                clear hcond hSl hS2
                go_wp2_with fail
                refine CSM.out.mono ?_
                rintro e w12 ⟨rfl, b12⟩
                have B12 := aside (bthen B11.out b12)
                have G12 := aside (G11.out.on b12)
                have O12 := aside (own_on O11.out b12)
                have HOW := aside G11.out.oneW
                have HCK := aside G11.out.chk
                clear b12 CSM G11 O11 HTN HTL c0
                as_aux_lemma =>
                go_wp2_with fail
                go_loopw [18] (fun i wr => ∃ q : Nat, i = .int .i64 (q : Int) ∧ q ≤ nn ∧ Hid (Gh wr B p m k L H2) ∧ Hid (wr.ownsRow B 31 5 (.slice an nn cn) nn (entCells ln)) ∧ Below w.heap.size w wr) (fun i _ => nn - (intOf i).toNat)
                case atStart => exact ⟨0, rfl, Nat.zero_le _, G12.out, O12.out, B12.out⟩
                case round =>
                  clear G12 O12 B12
                  obtain ⟨q, rfl, hq, GQ, OQ, hB⟩ := hrel
                  have BQ := aside hB
                  clear hB
                  by_cases hlq : (q : Int) < (nn : Int)
                  · have hq0 : (0 : Int) ≤ (q : Int) := by omega
                    have hnb : (nn : Int) ≤ 1073741824 := by have := HNN.out.2.2; omega
                    obtain ⟨x, hx⟩ : ∃ x, ln[q]? = some x := ⟨ln[q]'(by have := HNN.out.1; omega), List.getElem?_eq_getElem _⟩
                    have HXL := aside (HUP.out.2 x (List.mem_of_getElem? hx))
                    obtain ⟨TQ, hTQ, hTQl, -⟩ := entsG_of OQ.out (mapKeys HNN.out.2.1)
                    rcases hTQ.2.2 with h0 | ⟨bq, oq, rfl, -, -⟩
                    · omega
                    have hxq : TQ q = x := by
                      have h1 := firstE_get TQ (show q < nn by omega)
                      rw [hTQl, hx] at h1
                      injection h1 with h1
                      exact h1.symm
                    have F1 := aside (ents_five hTQ (by omega) hxq)
                    obtain ⟨f0, f1, f2, f3, f4⟩ := F1.out
                    have CW := aside (gwritten_any GQ.out x (wf_chk (HCK.out x HXL.out)))
                    rw [(wrB_iff HOW.out x).2 HXL.out] at CW
                    clear hx hTQ hTQl hxq F1
                    go_wp2_with fail
                    refine CW.out.mono ?_
                    rintro e w13 ⟨rfl, b13⟩
                    have B13 := aside (bthen BQ.out b13)
                    have G13 := aside (GQ.out.on b13)
                    have O13 := aside (own_on OQ.out b13)
                    clear b13 f0 f1 f2 f3 f4 CW
                    go_wp2
                    go_roundw
                    case rel => exact ⟨q + 1, by first | rfl | go_num, by omega, G13.out, O13.out, B13.out⟩
                    case measure => simp [intOf] <;> omega
                  · have HFIN := aside (show (heldG H2 node).l.length = nn from by rw [HLN.out]; exact HNN.out.1)
                    go_wp2
                    go_roundw
                    case rel => exact ⟨j + 1, H2, an, cn, by rw [HFIN.out], by first | rfl | go_num, by have := HLJ.out; omega, GQ.out, by rw [HFIN.out, HLN.out]; exact OQ.out, by rw [HFIN.out, HLN.out]; exact ⟨HNN.out.2.1, HNN.out.2.2, HUP.out.2⟩, BQ.out⟩
                    case measure => have := HLJ.out; simp [intOf] <;> omega
              · have e2 : as2 = al ∧ ls2 = nl ∧ cs2 = cl := by
                  rcases hcond.out with ⟨-, h2⟩ | ⟨h1, -⟩
                  · exact h2
                  · exact absurd h1 hcc
                obtain ⟨rfl, rfl, rfl⟩ := e2
                have hz : (cc == 0) = false := by simpa using hcc
                clear hcond hSl hS2
                go_wp2_with fail
                refine CSM.out.mono ?_
                rintro e w12 ⟨rfl, b12⟩
                have B12 := aside (bthen B11.out b12)
                have G12 := aside (G11.out.on b12)
                have O12 := aside (own_on O11.out b12)
                have HOW := aside G11.out.oneW
                have HCK := aside G11.out.chk
                clear b12 CSM G11 O11 HTN HTL c0
                as_aux_lemma =>
                go_wp2_with fail
                go_loopw [18] (fun i wr => ∃ q : Nat, i = .int .i64 (q : Int) ∧ q ≤ nn ∧ Hid (Gh wr B p m k L H2) ∧ Hid (wr.ownsRow B 31 5 (.slice an nn cn) nn (entCells ln)) ∧ Below w.heap.size w wr) (fun i _ => nn - (intOf i).toNat)
                case atStart => exact ⟨0, rfl, Nat.zero_le _, G12.out, O12.out, B12.out⟩
                case round =>
                  clear G12 O12 B12
                  obtain ⟨q, rfl, hq, GQ, OQ, hB⟩ := hrel
                  have BQ := aside hB
                  clear hB
                  by_cases hlq : (q : Int) < (nn : Int)
                  · have hq0 : (0 : Int) ≤ (q : Int) := by omega
                    have hnb : (nn : Int) ≤ 1073741824 := by have := HNN.out.2.2; omega
                    obtain ⟨x, hx⟩ : ∃ x, ln[q]? = some x := ⟨ln[q]'(by have := HNN.out.1; omega), List.getElem?_eq_getElem _⟩
                    have HXL := aside (HUP.out.2 x (List.mem_of_getElem? hx))
                    obtain ⟨TQ, hTQ, hTQl, -⟩ := entsG_of OQ.out (mapKeys HNN.out.2.1)
                    rcases hTQ.2.2 with h0 | ⟨bq, oq, rfl, -, -⟩
                    · omega
                    have hxq : TQ q = x := by
                      have h1 := firstE_get TQ (show q < nn by omega)
                      rw [hTQl, hx] at h1
                      injection h1 with h1
                      exact h1.symm
                    have F1 := aside (ents_five hTQ (by omega) hxq)
                    obtain ⟨f0, f1, f2, f3, f4⟩ := F1.out
                    have CW := aside (gwritten_any GQ.out x (wf_chk (HCK.out x HXL.out)))
                    rw [(wrB_iff HOW.out x).2 HXL.out] at CW
                    clear hx hTQ hTQl hxq F1
                    go_wp2_with fail
                    refine CW.out.mono ?_
                    rintro e w13 ⟨rfl, b13⟩
                    have B13 := aside (bthen BQ.out b13)
                    have G13 := aside (GQ.out.on b13)
                    have O13 := aside (own_on OQ.out b13)
                    clear b13 f0 f1 f2 f3 f4 CW
                    go_wp2
                    go_roundw
                    case rel => exact ⟨q + 1, by first | rfl | go_num, by omega, G13.out, O13.out, B13.out⟩
                    case measure => simp [intOf] <;> omega
                  · have HFIN := aside (show (heldG H2 node).l.length = nn from by rw [HLN.out]; exact HNN.out.1)
                    go_wp2
                    go_roundw
                    case rel => exact ⟨j + 1, H2, an, cn, by rw [HFIN.out], by first | rfl | go_num, by have := HLJ.out; omega, GQ.out, by rw [HFIN.out, HLN.out]; exact OQ.out, by rw [HFIN.out, HLN.out]; exact ⟨HNN.out.2.1, HNN.out.2.2, HUP.out.2⟩, BQ.out⟩
                    case measure => have := HLJ.out; simp [intOf] <;> omega
            · obtain rfl : j = len1 := by omega
              go_wp2
              go_ret
              exact ⟨rfl, HB.out⟩
end Go.Proofs.Ytfkdhambbpkmpaa

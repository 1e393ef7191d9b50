/-
  The document's Load of an image.
-/
import Derived.Test.YtlbkcndmljlnmaaDoorBq28
namespace Go.Proofs.YtlbkcndmljlnmaaDoor
open Go.RowKit
set_option linter.unusedVariables false
/-- What Load of an image says, the document's. -/
def RImSay (w : World) (l : List UInt8) (r : Ending) (w' : World) : Prop :=
  (∃ nd ck es db, ImgIs l nd ck es ∧ r = .returned (.tuple #[.pointer (some ⟨db, 0, none⟩), .int .i64 0]) ∧ w.heap.size ≤ db ∧ DSt w' w.heap.size db nd ck es) ∨ ((∀ nd ck es, ¬ ImgIs l nd ck es) ∧ r = .returned (.tuple #[.pointer none, .int .i64 100]))
set_option maxHeartbeats 6400000 in
set_option maxRecDepth 100000 in
theorem rimload {w : World} {a : Option Addr} {len cap : Nat} {l : List UInt8} (hA : ArgB w a len cap l) (hl : len ≤ 140737488351232) :
    Calls Tryd.prog 15 #[.slice a len cap] w fun r w' => Below w.heap.size w w' ∧ RImSay w l r w' := by
  have HSM := aside (show l.length ≤ 140737488355328 from by have := hA.1; omega)
  have CN := aside (newReaderRef_any a len cap l w hA hl)
  clear hA hl
  rcases h1 : textSt l 0 0 4 with ⟨t, p1, e1⟩
  rcases h2 : numSt l p1 e1 7 with ⟨nd, p2, e2⟩
  rcases h3 : numSt l p2 e2 1099511627776 with ⟨ck, p3, e3⟩
  rcases h4 : entriesSt l p3 e3 with ⟨es, p4, e4⟩
  have HST := aside (imgSt_eq h1 h2 h3 h4)
  obtain ⟨nn, p5, e5, h5⟩ : ∃ nn p5 e5, numSt l p3 e3 256 = (nn, p5, e5) := ⟨_, _, _, rfl⟩
  have hT : entsSt l nn.toNat p5 e5 [] = (es, p4, e4) := by rw [← h4]; unfold entriesSt; rw [h5]
  have hp3 : p3 ≤ l.length := by
    have q1 := textSt_le l 0 0 4 (Nat.zero_le _); rw [h1] at q1
    have q2 := numSt_le l p1 e1 7 q1; rw [h2] at q2
    have q3 := numSt_le l p2 e2 1099511627776 q2; rw [h3] at q3
    exact q3
  obtain ⟨hn0, hn1⟩ := numSt_most (by omega) hp3 h5
  obtain ⟨N, rfl⟩ : ∃ N : Nat, nn = (N : Int) := ⟨nn.toNat, by omega⟩
  rw [Int.toNat_natCast] at hT
  have HZ := aside (show e5 ≠ 0 → N = 0 from fun h => by have := numSt_zero h5 h; omega)
  have H1 := aside h1
  have H2 := aside h2
  have H3 := aside h3
  have H4 := aside h4
  have H5 := aside h5
  have HT := aside hT
  have HNN := aside (show N ≤ 256 by omega)
  have hmx : (N : Int) ≤ 9223372036854775807 := by omega
  clear h1 h2 h3 h4 h5 hT hn0 hn1 hp3
  go_enter Tryd.func15, Tryd.ntmps15
  go_wp2_with fail
  refine CN.out.mono ?_
  rintro r w1 ⟨rfl, v, hv, k1⟩
  have BB := aside (k1.below (Nat.le_refl w.heap.size) (fun i hi e => e))
  obtain ⟨br, hbr⟩ : ∃ br, w.heap.size = br := ⟨_, rfl⟩
  have HBR := aside hbr
  rw [hbr] at hv ⊢
  have RR := aside (show DocR (br + 1) br v l 0 0 w1 from ⟨hv, Nat.zero_le _, HSM.out⟩)
  have HVL := aside (show br < w1.heap.size ∧ ∀ j, v.ownBlock = some j → j < w1.heap.size from ⟨hv.lt, fun j hj => (hv.2.1.lt j hj).2⟩)
  clear hv k1 hbr CN
  have KB : ∀ (X Y : World), Below w.heap.size w X → Keeps (fun x => x = br) X Y → Below w.heap.size w Y := fun X Y b k => b.trans (k.below b.size (fun i hi e => by have e' : i = br := e; have := HBR.out; omega))
  have HKB := aside KB
  clear KB
  go_wp2_with fail
  refine (doc_text_at rfl H1.out RR.out).mono ?_
  rintro r w2 ⟨rfl, R2, k2⟩
  replace BB := aside (HKB.out _ _ BB.out k2)
  replace RR := aside R2
  clear R2 k2
  go_wp2_with fail
  refine (doc_num_at H2.out RR.out).mono ?_
  rintro r w3 ⟨rfl, R2, k2⟩
  replace BB := aside (HKB.out _ _ BB.out k2)
  replace RR := aside R2
  clear R2 k2
  go_wp2_with fail
  refine (doc_num_at H3.out RR.out).mono ?_
  rintro r w4 ⟨rfl, R2, k2⟩
  replace BB := aside (HKB.out _ _ BB.out k2)
  replace RR := aside R2
  clear R2 k2
  go_wp2_with fail
  refine (doc_num_at H5.out RR.out).mono ?_
  rintro r w5 ⟨rfl, R2, k2⟩
  replace BB := aside (HKB.out _ _ BB.out k2)
  replace RR := aside R2
  clear R2 k2
  have HW1 := aside (show w.heap.size ≤ w5.heap.size from BB.out.size)
  have HBR5 := aside RR.out.lt
  have HVL5 := aside (show ∀ j, v.ownBlock = some j → j < w5.heap.size from fun j hj => (RR.out.doc.2.1.lt j hj).2)
  go_wp2
  go_loopw [9, 10] (fun vv t wr => ∃ (j n c q : Nat) (a : Option Addr) (f : Int) (acc : List En), vv = .slice a n c ∧ t = .int .i64 (j : Int) ∧ j ≤ N ∧ n ≤ j ∧ Hid (acc.length = n) ∧ Hid (wr.ownsRow w5.heap.size 44 5 (.slice a n c) n (entCells acc)) ∧ Hid (DocR (br + 1) br v l q f wr) ∧ Hid (Below w.heap.size w wr ∧ w5.heap.size ≤ wr.heap.size) ∧ Hid ((f = 0 ∧ entsSt l (N - j) q 0 acc = (es, p4, e4)) ∨ (f ≠ 0 ∧ e4 ≠ 0))) (fun _ t _ => N - (intOf t).toNat)
  case atStart =>
    refine ⟨0, 0, 0, p5, none, e5, [], rfl, rfl, Nat.zero_le _, Nat.le_refl _, rfl, ⟨rfl, .inl ⟨rfl, rfl⟩⟩, RR.out, ⟨BB.out, Nat.le_refl _⟩, ?_⟩
    by_cases hf : e5 = 0
    · subst hf
      exact .inl ⟨rfl, HT.out⟩
    · refine .inr ⟨hf, ?_⟩
      have h9 := HT.out
      rw [HZ.out hf] at h9
      unfold entsSt at h9
      simp only [Prod.mk.injEq] at h9
      rw [← h9.2.2]
      exact hf
  case round =>
    clear RR BB HT
    obtain ⟨j, n, c, q, a, f, acc, rfl, rfl, hj, hnj, HAC, OW, RR, BB, HT⟩ := hrel
    have CE := aside (doc_err_at RR.out)
    have HJ := aside hj
    have HNJ := aside hnj
    clear hj hnj
    by_cases hgo : (j : Int) < (N : Int) ∧ f = 0
    · obtain ⟨hlt, rfl⟩ := hgo
      have HLT := aside hlt
      obtain ⟨m, hm⟩ : ∃ m, N - j = m + 1 := ⟨N - j - 1, by omega⟩
      have HM := aside hm
      rcases hg : getSt l q 0 with ⟨⟨Rk, Rc, Rn, Rv, Rd⟩, q1, f1⟩
      have HG := aside hg
      have hwr : IntKind.i64.wrap ((j : Int) + 1) = (((j + 1 : Nat)) : Int) := by rw [IntKind.wrap_i64]; omega
      have C2 := aside (fun w (h : DocR (br + 1) br v l q 0 w) => getRef_at h hg)
      have HT1 := aside (show entsSt l (m + 1) q 0 acc = (es, p4, e4) from by rcases HT.out with h9 | h9; rw [← hm]; exact h9.2; exact absurd rfl h9.1)
      clear hg hm HT
      go_wp2_with fail
      refine CE.out.mono ?_
      rintro r w6 ⟨rfl, e6⟩
      obtain rfl : wr = w6 := e6.symm
      clear CE
      go_wp2_with fail
      refine (C2.out _ RR.out).mono ?_
      rintro r w7 ⟨rfl, R1, k1⟩
      have HBL := aside (show ∀ k, Value.ownBlock (.slice a n c) = some k → ¬ k = br from fun k hk e => by have h1 := (OW.out.lt k hk).1; have := HBR5.out; omega)
      replace OW := aside (ownsRow_keep OW.out k1 HBL.out)
      replace BB := aside (show Below w.heap.size w w7 ∧ w5.heap.size ≤ w7.heap.size from ⟨HKB.out _ _ BB.out.1 k1, Nat.le_trans BB.out.2 k1.size⟩)
      replace RR := aside R1
      clear k1 R1 C2
      have B2 := aside (bnew w7 (.cells #[.string Rk, .int .i64 Rc, .int .i64 Rn, .string Rv, .bool Rd] 44))
      have K2 := aside (heap_alloc_new w7 (.cells #[.string Rk, .int .i64 Rc, .int .i64 Rn, .string Rv, .bool Rd] 44))
      replace OW := aside (own_on OW.out B2.out)
      replace RR := aside (RR.out.keep (Keeps.of_below B2.out (fun _ => False)) (fun h => h) (fun _ _ h => h))
      replace BB := aside (show Below w.heap.size w (w7.alloc (.cells #[.string Rk, .int .i64 Rc, .int .i64 Rn, .string Rv, .bool Rd] 44)) ∧ w5.heap.size ≤ (w7.alloc (.cells #[.string Rk, .int .i64 Rc, .int .i64 Rn, .string Rv, .bool Rd] 44)).heap.size from ⟨BB.out.1.trans (B2.out.mono BB.out.1.size), Nat.le_trans BB.out.2 B2.out.size⟩)
      go_wp2_with (at_builtin; refine wpList_plain rfl fun K hK => op_append_ent _ _ rfl w5.heap.size n (.slice a n c) acc (by rfl) OW.out w7.heap.size 1 ⟨Rk, Rc, Rn, Rv, Rd⟩ (by rfl) K2.out (by have h1 := HNJ.out; have h2 := HJ.out; have h3 := HNN.out; omega) BB.out.2 ?_; intro g cap w8 own3 gr3; refine hK _ _ ?_; refine Hid.out ?_)
      refine aside ?_
      have kg := (Keeps.refl (fun x => Value.ownBlock (.slice a n c) = some x) _).grown gr3 (fun k hk _ => hk)
      replace RR := aside (RR.out.keep kg (fun h => HBL.out br h rfl) (fun jj hj h => by have h1 := (OW.out.lt jj h).1; have h2 := HVL5.out jj hj; omega))
      replace BB := aside (show Below w.heap.size w w8 ∧ w5.heap.size ≤ w8.heap.size from ⟨BB.out.1.trans (kg.below BB.out.1.size (fun i hi h => by have h1 := (OW.out.lt i h).1; have h2 := HW1.out; omega)), Nat.le_trans BB.out.2 kg.size⟩)
      replace OW := aside own3
      have HT2 := aside (show (f1 = 0 ∧ entsSt l m q1 0 (acc ++ [⟨Rk, Rc, Rn, Rv, Rd⟩]) = (es, p4, e4)) ∨ (f1 ≠ 0 ∧ e4 ≠ 0) from by
        by_cases hf : f1 = 0
        · subst hf
          exact .inl ⟨rfl, by rw [← entsSt_step HG.out]; exact HT1.out⟩
        · refine .inr ⟨hf, ?_⟩
          have h9 := HT1.out
          rw [entsSt_stop HG.out hf] at h9
          simp only [Prod.mk.injEq] at h9
          rw [← h9.2.2]
          exact hf)
      clear kg gr3 own3 B2 K2 HBL HT1 HG
      go_wp2
      go_roundw
      case rel => exact ⟨j + 1, n + 1, cap, q1, _, f1, acc ++ [⟨Rk, Rc, Rn, Rv, Rd⟩], rfl, by go_num, by have := HLT.out; omega, by have := HNJ.out; omega, by rw [List.length_append, HAC.out]; rfl, OW, RR, BB, by rw [show N - (j + 1) = m from by have := HM.out; omega]; exact HT2⟩
      case measure => have := HLT.out; simp [intOf]; omega
    · have HGO := aside hgo
      have HT2 := aside (show (f = 0 ∧ acc = es ∧ q = p4 ∧ e4 = 0) ∨ (f ≠ 0 ∧ e4 ≠ 0) from by
        rcases HT.out with h9 | h9
        · have hjn : N - j = 0 := by
            have h8 := HGO.out
            have h7 := HJ.out
            by_cases h6 : (j : Int) < (N : Int)
            · exact absurd ⟨h6, h9.1⟩ h8
            · omega
          have h10 := h9.2
          rw [hjn] at h10
          unfold entsSt at h10
          simp only [Prod.mk.injEq] at h10
          exact .inl ⟨h9.1, h10.1, h10.2.1, h10.2.2.symm⟩
        · exact .inr h9)
      clear HT
      by_cases hlt : (j : Int) < (N : Int)
      · have hf : ¬ f = 0 := fun e => hgo ⟨hlt, e⟩
        have hfb : (f == 0) = false := by simpa using hf
        clear hgo
        go_wp2_with fail
        refine CE.out.mono ?_
        rintro r w6 ⟨rfl, e6⟩
        obtain rfl : wr = w6 := e6.symm
        have HF := aside hf
        clear CE
        have hTT : (⟨tideS.data⟩ : ByteArray).toList = [116, 105, 100, 101] := ByteArray.toList_mk [116, 105, 100, 101]
        by_cases ht : t = tideS.data.toList
        case neg =>
          have HT9 := aside ht
          have htb : (t == ([116, 105, 100, 101] : List UInt8)) = false := by
            simp only [beq_eq_false_iff_ne]
            exact fun e => ht (e.trans rfl)
          clear ht hTT
          go_wp2
          go_ret2
          exact ⟨BB.out.1, .inr ⟨fun nd' ck' es' hI => HT9.out (by have h9 := HST.out.symm.trans hI.1; simp only [Prod.mk.injEq] at h9; exact h9.1.1), rfl⟩⟩
        case pos =>
          subst ht
          have CD := aside (rrdone_any _ br v l (q : Int) f wr RR.out.doc (by omega) (by have := RR.out.le; omega) HSM.out)
          go_wp2_with fail
          refine CD.out.mono ?_
          rintro r w9 ⟨rfl, n9, rfl⟩
          have B9 := aside (show Below wr.heap.size wr (wr.drewN n9) from ⟨rfl, rfl, rfl, Nat.le_refl _, fun _ _ => rfl⟩)
          obtain ⟨w9, hw9⟩ : ∃ w9, wr.drewN n9 = w9 := ⟨_, rfl⟩
          rw [hw9] at B9 ⊢
          have HB9 := aside (BB.out.1.trans (B9.out.mono BB.out.1.size))
          have HS9 := aside (show w5.heap.size ≤ w9.heap.size from Nat.le_trans BB.out.2 B9.out.size)
          have OW9 := aside (own_on OW.out B9.out)
          have HLE := aside RR.out.le
          clear hw9 CD hTT
          by_cases hd : f = 0 ∧ q = l.length
          case neg =>
            have HD := aside hd
            have HDN := aside (show doneOf ((l.length : Int) - (q : Int)) f ≠ 0 from fun h => hd (by
              have := HLE.out
              unfold doneOf at h
              split at h
              · omega
              · omega))
            have hdb : (doneOf ((l.length : Int) - (q : Int)) f == 0) = false := by have := HDN.out; simpa using this
            clear hd
            go_wp2
            go_ret2
            exact ⟨HB9.out, .inr ⟨fun nd' ck' es' hI => HD.out (by have h9 := HST.out.symm.trans hI.1; simp only [Prod.mk.injEq] at h9; rcases HT2.out with h7 | h7; exact ⟨h7.1, by rw [h7.2.2.1, h9.2.1]⟩; exact absurd h9.2.2 h7.2), rfl⟩⟩
          case pos =>
            exact absurd hd.1 HF.out
      · clear hgo CE
        have hTT : (⟨tideS.data⟩ : ByteArray).toList = [116, 105, 100, 101] := ByteArray.toList_mk [116, 105, 100, 101]
        by_cases ht : t = tideS.data.toList
        case neg =>
          have HT9 := aside ht
          have htb : (t == ([116, 105, 100, 101] : List UInt8)) = false := by
            simp only [beq_eq_false_iff_ne]
            exact fun e => ht (e.trans rfl)
          clear ht hTT
          go_wp2
          go_ret2
          exact ⟨BB.out.1, .inr ⟨fun nd' ck' es' hI => HT9.out (by have h9 := HST.out.symm.trans hI.1; simp only [Prod.mk.injEq] at h9; exact h9.1.1), rfl⟩⟩
        case pos =>
          subst ht
          have CD := aside (rrdone_any _ br v l (q : Int) f wr RR.out.doc (by omega) (by have := RR.out.le; omega) HSM.out)
          go_wp2_with fail
          refine CD.out.mono ?_
          rintro r w9 ⟨rfl, n9, rfl⟩
          have B9 := aside (show Below wr.heap.size wr (wr.drewN n9) from ⟨rfl, rfl, rfl, Nat.le_refl _, fun _ _ => rfl⟩)
          obtain ⟨w9, hw9⟩ : ∃ w9, wr.drewN n9 = w9 := ⟨_, rfl⟩
          rw [hw9] at B9 ⊢
          have HB9 := aside (BB.out.1.trans (B9.out.mono BB.out.1.size))
          have HS9 := aside (show w5.heap.size ≤ w9.heap.size from Nat.le_trans BB.out.2 B9.out.size)
          have OW9 := aside (own_on OW.out B9.out)
          have HLE := aside RR.out.le
          clear hw9 CD hTT
          by_cases hd : f = 0 ∧ q = l.length
          case neg =>
            have HD := aside hd
            have HDN := aside (show doneOf ((l.length : Int) - (q : Int)) f ≠ 0 from fun h => hd (by
              have := HLE.out
              unfold doneOf at h
              split at h
              · omega
              · omega))
            have hdb : (doneOf ((l.length : Int) - (q : Int)) f == 0) = false := by have := HDN.out; simpa using this
            clear hd
            go_wp2
            go_ret2
            exact ⟨HB9.out, .inr ⟨fun nd' ck' es' hI => HD.out (by have h9 := HST.out.symm.trans hI.1; simp only [Prod.mk.injEq] at h9; rcases HT2.out with h7 | h7; exact ⟨h7.1, by rw [h7.2.2.1, h9.2.1]⟩; exact absurd h9.2.2 h7.2), rfl⟩⟩
          case pos =>
            obtain ⟨rfl, hq⟩ := hd
            obtain ⟨rfl, rfl, he4⟩ : acc = es ∧ q = p4 ∧ e4 = 0 := by
              rcases HT2.out with h7 | h7
              · exact h7.2
              · exact absurd rfl h7.1
            have HQ := aside hq
            have HE4 := aside he4
            have hdz : doneOf ((l.length : Int) - (q : Int)) 0 = 0 := by
              unfold doneOf
              rw [if_neg (by omega)]
            have HIN := aside (show ∀ e ∈ acc, e.chk = 0 from by
              have h4 := H4.out
              have h3 := H3.out
              have h2 := H2.out
              rw [he4] at h4
              obtain rfl := entries_err h4
              obtain rfl := num_err h3
              obtain rfl := num_err h2
              obtain ⟨a1, a2, a3⟩ := text_inv (Nat.zero_le _) H1.out
              obtain ⟨x, -, b2, b3, b4⟩ := num_inv a3 h2
              obtain ⟨y, -, c2, c3, c4⟩ := num_inv b4 h3
              obtain ⟨d1, d2, d3, d4⟩ := entries_inv c4 h4
              exact d4)
            rw [hdz]
            have e9 := HAC.out
            subst e9
            obtain ⟨a7, c7, e7, HE⟩ := own_entsI OW9.out (fun e he => key_small (HIN.out e he))
            obtain ⟨rfl, rfl⟩ : a = a7 ∧ c = c7 := by simpa using e7
            have hform : (a = none ∧ acc.length = 0 ∧ c = 0) ∨ ∃ y, a = some y := by
              rcases OW9.out.2 with ⟨h7, h8⟩ | ⟨g7, c7, cur, h7, -⟩
              · simp only [Value.slice.injEq] at h7
                exact .inl ⟨h7.1, h7.2.1, h7.2.2⟩
              · simp only [Value.slice.injEq] at h7
                exact .inr ⟨_, h7.1⟩
            have C8 := aside (rload nd ck a acc.length c (nthE acc) w9 HE hform)
            rw [firstE_nth] at C8
            have HB7 := aside HB9.out.size
            clear e7 HE hform he4 hq hdz
            go_wp2_with fail
            refine C8.out.mono ?_
            rintro r w10 ⟨b10, ⟨hO, db, rfl, hdb, hds⟩ | ⟨hO, c, hc, rfl⟩⟩
            case inr =>
              have HOO := aside hO
              have HB10 := aside (HB9.out.trans (b10.mono HB9.out.size))
              have hcb : (c == 0) = false := by simpa using hc
              clear hO hc b10 C8
              go_wp2
              go_ret2
              exact ⟨HB10.out, .inr ⟨fun nd' ck' es' hI => HOO.out (by have h9 := HST.out.symm.trans hI.1; simp only [Prod.mk.injEq] at h9; obtain ⟨⟨-, rfl, rfl, rfl⟩, -⟩ := h9; exact hI.2), rfl⟩⟩
            have HB10 := aside (HB9.out.trans (b10.mono HB9.out.size))
            have RES := aside (show ImgIs l nd ck acc ∧ w.heap.size ≤ db ∧ DSt w10 w.heap.size db nd ck acc from ⟨⟨by rw [HST.out, HQ.out, HE4.out], hO⟩, Nat.le_trans HB7.out hdb, by obtain ⟨vv, g1, g2⟩ := hds; exact ⟨vv, g1, own_low g2 HB7.out⟩⟩)
            clear hO hdb hds b10 C8
            go_wp2
            go_ret2
            exact ⟨HB10.out, .inl ⟨nd, ck, acc, db, RES.out.1, rfl, RES.out.2⟩⟩
end Go.Proofs.YtlbkcndmljlnmaaDoor

/-
  The code's readers of an image.
-/
import Derived.Test.YtlbkcndmljlnmaaDoorBx23
import Derived.Test.YtlbkcndmljlnmaaDoorBx24
import Derived.WalkLawsBesides
namespace Go.Proofs.YtlbkcndmljlnmaaDoor
open Go.RowKit
set_option linter.unusedVariables false
/-- What whoever reads gives up with. -/
def NoImg : List PanicEntry := [{ v := .iface 123 (.agg #[]), recovered := false }]
set_option maxHeartbeats 1600000 in
theorem give_no (w : World) : Calls Tryd.prog 68 #[.bool false] w fun e w' => e = .returned (.tuple #[]) ∧ w' = w := by
  go_enter Tryd.func68, Tryd.ntmps68
  go_wp2
  first | (go_ret; exact ⟨rfl, rfl⟩) | exact ⟨rfl, rfl⟩ | (go_end0; exact ⟨rfl, rfl⟩)
set_option maxHeartbeats 1600000 in
theorem give_yes (w : World) : Calls Tryd.prog 68 #[.bool true] w fun e w' => e = .panicked NoImg ∧ w' = w := by
  go_enter Tryd.func68, Tryd.ntmps68
  go_wp2
  exact ⟨rfl, rfl, rfl⟩
theorem give_yesB {x : Bool} (hx : x = true) (w : World) : Calls Tryd.prog 68 #[.bool x] w fun e w' => e = .panicked NoImg ∧ w' = w := by
  subst hx
  exact give_yes w
theorem give_noB {x : Bool} (hx : x = false) (w : World) : Calls Tryd.prog 68 #[.bool x] w fun e w' => e = .returned (.tuple #[]) ∧ w' = w := by
  subst hx
  exact give_no w
set_option maxHeartbeats 6400000 in
set_option maxRecDepth 100000 in
theorem rdents {br : Nat} {s : ByteArray} {l : List UInt8} {w : World} {p p' : Nat} {e e' : Int} {es : List En} (h : OneR br s l p e w) (hn : entriesSt l p e = (es, p', e')) :
    Calls Tryd.prog 72 #[.pointer (some ⟨br, 0, none⟩)] w fun r w' => Keeps (fun x => x = br) w w' ∧ ((∃ a c, r = .returned (.slice a es.length c) ∧ w'.ownsRow w.heap.size 44 5 (.slice a es.length c) es.length (entCells es) ∧ OneR br s l p' e' w') ∨ (e' ≠ 0 ∧ r = .panicked NoImg)) := by
  obtain ⟨nn, p1, e1, h1⟩ : ∃ nn p1 e1, numSt l p e 256 = (nn, p1, e1) := ⟨_, _, _, rfl⟩
  have hT : entsSt l nn.toNat p1 e1 [] = (es, p', e') := by rw [← hn]; unfold entriesSt; rw [h1]
  obtain ⟨hn0, hn1⟩ := numSt_most (by omega) h.le h1
  obtain ⟨N, rfl⟩ : ∃ N : Nat, nn = (N : Int) := ⟨nn.toNat, by omega⟩
  rw [Int.toNat_natCast] at hT
  have HT := aside hT
  have HNN := aside (show N ≤ 256 by omega)
  have hmx : (N : Int) ≤ 9223372036854775807 := by omega
  have C1 := aside (one_num_at h1 h)
  have HBR := aside h.lt
  clear hn h1 hT hn0 hn1 h
  go_enter Tryd.func72, Tryd.ntmps72
  go_wp2_with fail
  refine C1.out.mono ?_
  rintro r w1 ⟨rfl, R1, k1⟩
  have RR := aside R1
  have KK := aside k1
  clear R1 k1 C1
  go_wp2
  go_loopw [3, 6] (fun v t wr => ∃ (j n c q : Nat) (a : Option Addr) (f : Int) (acc : List En), v = .slice a n c ∧ t = .int .i64 (j : Int) ∧ j ≤ N ∧ n ≤ j ∧ Hid (acc.length = n) ∧ Hid (wr.ownsRow w.heap.size 44 5 (.slice a n c) n (entCells acc)) ∧ Hid (OneR br s l q f wr) ∧ Hid (Keeps (fun x => x = br) w wr) ∧ Hid (entsSt l (N - j) q f acc = (es, p', e'))) (fun _ t _ => N - (intOf t).toNat)
  case atStart => exact ⟨0, 0, 0, p1, none, e1, [], rfl, rfl, Nat.zero_le _, Nat.le_refl _, rfl, ⟨rfl, .inl ⟨rfl, rfl⟩⟩, RR.out, KK.out, HT.out⟩
  case round =>
    clear RR KK HT
    obtain ⟨j, n, c, q, a, f, acc, rfl, rfl, hj, hnj, HAC, OW, RR, KK, HT⟩ := hrel
    by_cases hlt : (j : Int) < (N : Int)
    · obtain ⟨m, hm⟩ : ∃ m, N - j = m + 1 := ⟨N - j - 1, by omega⟩
      rw [hm] at HT
      rcases hg : getSt l q f with ⟨⟨Rk, Rc, Rn, Rv, Rd⟩, q1, f1⟩
      have C2 := aside (fun w (h : OneR br s l q f w) => get_at h hg)
      have HG := aside hg
      have HM := aside hm
      have HJ := aside hj
      have HNJ := aside hnj
      have hwr : IntKind.i64.wrap ((j : Int) + 1) = (((j + 1 : Nat)) : Int) := by rw [IntKind.wrap_i64]; omega
      clear hg hm hnj
      go_wp2_with fail
      refine (C2.out _ RR.out).mono ?_
      rintro r w2 ⟨rfl, R1, k1⟩
      have HBL := aside (show ∀ k, Value.ownBlock (.slice a n c) = some k → ¬ k = br from fun k hk e => by have h1 := (OW.out.lt k hk).1; have := HBR.out; omega)
      replace OW := aside (ownsRow_keep OW.out k1 HBL.out)
      replace KK := aside (KK.out.trans k1)
      replace RR := aside R1
      clear k1 R1 C2
      have B2 := aside (bnew w2 (.cells #[.string Rk, .int .i64 Rc, .int .i64 Rn, .string Rv, .bool Rd] 44))
      have K2 := aside (heap_alloc_new w2 (.cells #[.string Rk, .int .i64 Rc, .int .i64 Rn, .string Rv, .bool Rd] 44))
      replace OW := aside (own_on OW.out B2.out)
      replace RR := aside (RR.out.keep (Keeps.of_below B2.out (fun _ => False)) (fun h => h))
      replace KK := aside (KK.out.trans (Keeps.of_below B2.out _))
      have HWS := aside (show w.heap.size ≤ w2.heap.size + 1 from by have := KK.out.size; rw [World.size_alloc] at this; exact this)
      go_wp2_with (at_builtin; refine wpList_plain rfl fun K hK => op_append_ent _ _ rfl w.heap.size n (.slice a n c) acc (by rfl) OW.out w2.heap.size 1 ⟨Rk, Rc, Rn, Rv, Rd⟩ (by rfl) K2.out (by have h1 := HNJ.out; have h2 := HJ.out; have h3 := HNN.out; omega) (by rw [World.size_alloc]; exact HWS.out) ?_; intro g cap w3 own3 gr3; refine hK _ _ ?_; refine Hid.out ?_)
      refine aside ?_
      have kg := (Keeps.refl (fun x => Value.ownBlock (.slice a n c) = some x) _).grown gr3 (fun k hk _ => hk)
      replace RR := aside (RR.out.keep kg (fun h => HBL.out br h rfl))
      replace KK := aside (KK.out.grown gr3 (fun k hk h => by have := (OW.out.lt k hk).1; omega))
      replace OW := aside own3
      clear kg gr3 own3 B2 K2 HWS HBL
      have CE := aside (one_err_at RR.out)
      go_wp2_with fail
      refine CE.out.mono ?_
      rintro r w4 ⟨rfl, rfl⟩
      clear CE
      by_cases hf : f1 = 0
      · subst hf
        have HT2 := aside (show entsSt l m q1 0 (acc ++ [⟨Rk, Rc, Rn, Rv, Rd⟩]) = (es, p', e') from by rw [← entsSt_step HG.out]; exact HT.out)
        clear HT HG
        go_wp2_with fail
        refine (give_no _).mono ?_
        rintro r w5 ⟨rfl, rfl⟩
        go_wp2
        go_roundw
        case rel => exact ⟨j + 1, n + 1, cap, q1, _, 0, acc ++ [⟨Rk, Rc, Rn, Rv, Rd⟩], rfl, by go_num, by omega, by have := HNJ.out; omega, by rw [List.length_append, HAC.out]; rfl, OW, RR, KK, by rw [show N - (j + 1) = m from by have := HM.out; omega]; exact HT2⟩
        case measure => simp [intOf]; omega
      · have hfb : (f1 != 0) = true := by simpa using hf
        have HFB := aside hfb
        have HF := aside hf
        have HE' := aside (show e' = f1 from by have h9 := HT.out; rw [entsSt_stop HG.out hf] at h9; simp only [Prod.mk.injEq] at h9; exact h9.2.2.symm)
        clear hf HT HG hfb
        go_wp2_with fail
        refine (give_yesB HFB.out _).mono ?_
        rintro r w5 ⟨rfl, rfl⟩
        go_wp2
        exact ⟨rfl, KK.out, .inr ⟨by rw [HE'.out]; exact HF.out, rfl⟩⟩
    · have hjn : j = N := by omega
      subst hjn
      have HT2 := aside (show acc = es ∧ q = p' ∧ f = e' from by
        have h9 := HT.out
        rw [Nat.sub_self] at h9
        unfold entsSt at h9
        simpa using h9)
      clear HT
      go_wp2
      go_ret
      obtain ⟨rfl, rfl, rfl⟩ := HT2.out
      have e9 := HAC.out
      subst e9
      exact ⟨KK.out, .inl ⟨a, c, rfl, OW.out, RR.out⟩⟩
theorem own_entsI {w : World} {B : Nat} {v : Value} {l : List En} (h2 : w.ownsRow B 44 5 v l.length (entCells l)) (hk : KeysOk l) : ∃ a c, v = .slice a l.length c ∧ EntsIn w a l.length c (nthE l) := by
  obtain ⟨a, c, rfl, -, -, -⟩ := own_slice h2
  rcases h2.2 with ⟨h3, h4⟩ | ⟨g, cap, cur, h3, h4⟩
  · refine ⟨a, c, rfl, ?_⟩
    simp only [Value.slice.injEq] at h3
    obtain ⟨rfl, h6, rfl⟩ := h3
    rw [h4]
    exact ⟨by omega, by unfold maxLen; omega, .inl rfl⟩
  · simp only [Value.slice.injEq] at h3
    obtain ⟨rfl, -, rfl⟩ := h3
    obtain ⟨m1, m2⟩ := row_max h2
    have := ents_of_row h2 hk (o := 0) (m := l.length) (c := c) (by omega) m1 m2 (a := some ⟨g, 0, none⟩) (.inr (by simp))
    simp only [Nat.zero_add] at this
    exact ⟨_, _, rfl, this⟩
/-- What reading of a store says. -/
def RdSay (w : World) (l : List UInt8) (r : Ending) (w' : World) : Prop :=
  (∃ nd ck es sb g tb, ImgIs l nd ck es ∧ r = .returned (.pointer (some ⟨sb, 0, none⟩)) ∧ Sto w' sb g tb nd ck es ∧ w.heap.size ≤ sb ∧ w.heap.size ≤ g ∧ w.heap.size ≤ tb ∧ Lanes w') ∨ ((∀ nd ck es, ¬ ImgIs l nd ck es) ∧ r = .panicked NoImg)
set_option maxHeartbeats 6400000 in
set_option maxRecDepth 100000 in
theorem rdstore {w : World} {a : Option Addr} {len cap : Nat} {l : List UInt8} (hR : Reads w (.slice a len cap) l) (hlen : len = l.length) (L : Lanes w) :
    Calls Tryd.prog 43 #[.slice a len cap] w fun r w' => Below w.heap.size w w' ∧ RdSay w l r w' := by
  have HR := aside hR
  have HL := aside L
  subst hlen
  have BB := aside (Below.refl w.heap.size w)
  clear hR L
  by_cases hbig : (32768 : Int) < (l.length : Int)
  · have HBG := aside hbig
    go_enter Tryd.func43, Tryd.ntmps43
    go_wp2_with fail
    refine (give_yesB rfl _).mono ?_
    rintro r w9 ⟨rfl, e9⟩
    obtain rfl : w = w9 := e9.symm
    go_wp2
    exact ⟨rfl, BB.out, .inr ⟨fun nd ck es hI => by have h1 := imgIs_len hI; have h2 := HBG.out; omega, rfl⟩⟩
  have hsm : l.length ≤ 1099511627776 := by omega
  have HSM := aside hsm
  rcases h1 : textSt l 0 0 4 with ⟨t, p1, e1⟩
  rcases h2 : numSt l p1 e1 7 with ⟨nd, p2, e2⟩
  rcases h3 : numSt l p2 e2 1099511627776 with ⟨ck, p3, e3⟩
  rcases h4 : entriesSt l p3 e3 with ⟨es, p4, e4⟩
  have HST := aside (imgSt_eq h1 h2 h3 h4)
  have H1 := aside h1
  have H2 := aside h2
  have H3 := aside h3
  have H4 := aside h4
  clear h1 h2 h3 h4 hsm
  go_enter Tryd.func43, Tryd.ntmps43
  go_wp2_with fail
  refine (give_noB rfl _).mono ?_
  rintro r w0 ⟨rfl, e0⟩
  obtain rfl : w = w0 := e0.symm
  clear hbig
  go_wp2_with fail
  refine (newReader_any _ l _ HR.out).mono ?_
  rintro r w1 ⟨rfl, rfl⟩
  have NB := bnew w (.cells #[.string ⟨l.toArray⟩, .int .i64 0, .int .i64 0] 162)
  have r1 : OneR w.heap.size ⟨l.toArray⟩ l 0 0 (w.alloc (.cells #[.string ⟨l.toArray⟩, .int .i64 0, .int .i64 0] 162)) := ⟨isR_new w _, by simp, Nat.zero_le _, HSM.out⟩
  obtain ⟨br, hbr⟩ : ∃ br, w.heap.size = br := ⟨_, rfl⟩
  have HBR := aside hbr
  obtain ⟨w1, hw1⟩ : ∃ w1, w.alloc (.cells #[.string ⟨l.toArray⟩, .int .i64 0, .int .i64 0] 162) = w1 := ⟨_, rfl⟩
  rw [hw1] at r1 NB ⊢
  replace BB := aside NB
  rw [hbr] at r1 ⊢
  have RR := aside r1
  clear r1 NB hw1 hbr
  have KB : ∀ (X Y : World), Below w.heap.size w X → Keeps (fun x => x = br) X Y → Below w.heap.size w Y := fun X Y b k => b.trans (k.below b.size (fun i hi e => by have e' : i = br := e; have := HBR.out; omega))
  have HKB := aside KB
  clear KB
  have C1 := aside (one_text_at rfl H1.out RR.out)
  go_wp2_with fail
  refine C1.out.mono ?_
  rintro r w2 ⟨rfl, R2, k2⟩
  replace BB := aside (HKB.out _ _ BB.out k2)
  replace RR := aside R2
  clear C1 R2 k2
  by_cases ht : t = tideS.data.toList
  case neg =>
    have HT := aside ht
    have HTB := aside (show (!t == ([116, 105, 100, 101] : List UInt8)) = true from by
      simp only [Bool.not_eq_true', beq_eq_false_iff_ne]
      exact fun e => HT.out (e.trans rfl))
    go_wp2_with fail
    refine (give_yesB HTB.out _).mono ?_
    rintro r w3 ⟨rfl, e3'⟩
    obtain rfl : w2 = w3 := e3'.symm
    go_wp2
    exact ⟨rfl, BB.out, .inr ⟨fun nd' ck' es' hI => HT.out (by have h9 := HST.out.symm.trans hI.1; simp only [Prod.mk.injEq] at h9; exact h9.1.1), rfl⟩⟩
  case pos =>
    subst ht
    go_wp2_with fail
    refine (give_noB (by rw [show (⟨tideS.data⟩ : ByteArray).toList = [116, 105, 100, 101] from ByteArray.toList_mk [116, 105, 100, 101]]; rfl) _).mono ?_
    rintro r w3 ⟨rfl, e3'⟩
    obtain rfl : w2 = w3 := e3'.symm
    have C2 := aside (one_num_at H2.out RR.out)
    go_wp2_with fail
    refine C2.out.mono ?_
    rintro r w4 ⟨rfl, R2, k2⟩
    replace BB := aside (HKB.out _ _ BB.out k2)
    replace RR := aside R2
    clear C2 R2 k2
    have C3 := aside (one_num_at H3.out RR.out)
    go_wp2_with fail
    refine C3.out.mono ?_
    rintro r w5 ⟨rfl, R2, k2⟩
    replace BB := aside (HKB.out _ _ BB.out k2)
    replace RR := aside R2
    clear C3 R2 k2
    have C4 := aside (rdents RR.out H4.out)
    go_wp2_with fail
    refine C4.out.mono ?_
    rintro r w6 ⟨k2, ⟨a6, c6, rfl, ho, R2⟩ | ⟨he, rfl⟩⟩
    case inr =>
      replace BB := aside (HKB.out _ _ BB.out k2)
      have HEE := aside he
      clear k2 he C4
      go_wp2
      exact ⟨rfl, BB.out, .inr ⟨fun nd' ck' es' hI => HEE.out (by have h9 := HST.out.symm.trans hI.1; simp only [Prod.mk.injEq] at h9; exact h9.2.2), rfl⟩⟩
    have HB5 := aside BB.out.size
    replace BB := aside (HKB.out _ _ BB.out k2)
    replace RR := aside R2
    have OW := aside ho
    clear C4 R2 k2 ho
    have C5 := aside (rdone_any br _ (p4 : Int) e4 w6 RR.out.code (by omega) (by have := RR.out.size; have := RR.out.le; omega) (by have := RR.out.size; have := HSM.out; omega))
    rw [show ((⟨l.toArray⟩ : ByteArray).size : Int) = (l.length : Int) from by have := RR.out.size; omega] at C5
    go_wp2_with fail
    refine C5.out.mono ?_
    rintro r w7 ⟨rfl, n7, rfl⟩
    have B7 := aside (show Below w6.heap.size w6 (w6.drewN n7) from ⟨rfl, rfl, rfl, Nat.le_refl _, fun _ _ => rfl⟩)
    obtain ⟨w7, hw7⟩ : ∃ w7, w6.drewN n7 = w7 := ⟨_, rfl⟩
    rw [hw7] at B7 ⊢
    clear hw7 C5
    have HB6 := aside BB.out
    replace BB := aside (bthen BB.out B7.out)
    by_cases hd : e4 = 0 ∧ p4 = l.length
    case neg =>
      have HD := aside hd
      have HDN := aside (show doneOf ((l.length : Int) - (p4 : Int)) e4 ≠ 0 from fun h => hd (by
        have := RR.out.le
        unfold doneOf at h
        split at h
        · omega
        · omega))
      have HDB := aside (show (doneOf ((l.length : Int) - (p4 : Int)) e4 != 0) = true from by have := HDN.out; simpa using this)
      clear hd
      go_wp2_with fail
      refine (give_yesB HDB.out _).mono ?_
      rintro r w8 ⟨rfl, e8⟩
      obtain rfl : w7 = w8 := e8.symm
      go_wp2
      exact ⟨rfl, BB.out, .inr ⟨fun nd' ck' es' hI => HD.out (by have h9 := HST.out.symm.trans hI.1; simp only [Prod.mk.injEq] at h9; exact ⟨h9.2.2, h9.2.1⟩), rfl⟩⟩
    obtain ⟨rfl, hp4⟩ := hd
    have hdz : doneOf ((l.length : Int) - (p4 : Int)) 0 = 0 := by
      unfold doneOf
      rw [if_neg (by omega)]
    have HP4 := aside hp4
    have HIN := aside (show es.length ≤ 256 ∧ ∀ e ∈ es, e.chk = 0 from by
      obtain rfl := entries_err H4.out
      obtain rfl := num_err H3.out
      obtain rfl := num_err H2.out
      obtain ⟨a1, a2, a3⟩ := text_inv (Nat.zero_le _) H1.out
      obtain ⟨x, rfl, b2, b3, b4⟩ := num_inv a3 H2.out
      obtain ⟨y, rfl, c2, c3, c4⟩ := num_inv b4 H3.out
      obtain ⟨d1, d2, d3, d4⟩ := entries_inv c4 H4.out
      exact ⟨d3, d4⟩)
    rw [hdz]
    clear hp4 hdz
    go_wp2_with fail
    refine (give_noB rfl _).mono ?_
    rintro r w8 ⟨rfl, e8⟩
    obtain rfl : w7 = w8 := e8.symm
    obtain ⟨a7, c7, e7, HE⟩ := own_entsI (own_on OW.out B7.out) (fun e he => key_small (HIN.out.2 e he))
    obtain ⟨rfl, rfl⟩ : a6 = a7 ∧ c6 = c7 := by simpa using e7
    have C8 := aside (sload_any nd ck a6 es.length c6 (nthE es) w7 HE (HL.out.keep BB.out))
    rw [firstE_nth] at C8
    have HB7 := aside BB.out.size
    clear e7 HE OW
    go_wp2_with fail
    refine C8.out.mono ?_
    rintro r w9 ⟨b9, ⟨hO, L9, sb, g, tb, rfl, hst, l1, l2, l3⟩ | ⟨hO, c, hc, rfl⟩⟩
    case inr =>
      have HOO := aside hO
      have HCB := aside (show (c != 0) = true from by simpa using hc)
      replace BB := aside (bthen BB.out b9)
      clear hO hc b9 C8
      go_wp2_with fail
      refine (give_yesB HCB.out _).mono ?_
      rintro r w10 ⟨rfl, e8⟩
      obtain rfl : w9 = w10 := e8.symm
      go_wp2
      exact ⟨rfl, BB.out, .inr ⟨fun nd' ck' es' hI => HOO.out (by have h9 := HST.out.symm.trans hI.1; simp only [Prod.mk.injEq] at h9; obtain ⟨⟨-, rfl, rfl, rfl⟩, -⟩ := h9; exact hI.2), rfl⟩⟩
    replace BB := aside (bthen BB.out b9)
    have RES := aside (show ImgIs l nd ck es ∧ Sto w9 sb g tb nd ck es ∧ w.heap.size ≤ sb ∧ w.heap.size ≤ g ∧ w.heap.size ≤ tb ∧ Lanes w9 from ⟨⟨by rw [HST.out, HP4.out], hO⟩, hst, by have := HB7.out; omega, by have := HB7.out; omega, by have := HB7.out; omega, L9⟩)
    clear hO L9 hst l1 l2 l3 b9 C8
    go_wp2_with fail
    refine (give_noB rfl _).mono ?_
    rintro r w10 ⟨rfl, e8⟩
    obtain rfl : w9 = w10 := e8.symm
    go_wp2
    go_ret
    exact ⟨BB.out, .inl ⟨nd, ck, es, sb, g, tb, RES.out.1, rfl, RES.out.2⟩⟩
end Go.Proofs.YtlbkcndmljlnmaaDoor

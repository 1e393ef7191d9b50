/-
  The law MatchParts, walked for every argument.
-/
import Derived.Test.YtpbkjffiohfkcaaGreatDoorBs1
import Derived.Test.YtpbkjffiohfkcaaGreatDoorBs47
import Derived.Test.YtpbkjffiohfkcaaGreatDoorBs44
import Derived.Test.YtpbkjffiohfkcaaGreatDoorBs38
import Derived.Test.YtpbkjffiohfkcaaGreatDoorBs48
namespace Go.Proofs.YtpbkjffiohfkcaaGreatDoor
open Go.RowKit
set_option linter.unusedVariables false
theorem alN_keys {b lf : Int} {a : AlS} {P : Nat → Pm} (h : MapL a.s.l ∧ a.s.l.length ≤ 256) (h0 : ∀ q ∈ a.out, KeysOk q.es) {N : Nat} (hg : ∀ i, i < N → GoodP P i) : ∀ n, n ≤ N → ∀ q ∈ (alN b lf a P n).out, KeysOk q.es
 | 0, _ => h0
 | n + 1, hn => by
  show ∀ q ∈ (alStep b lf (alN b lf a P n) (P n)).out, KeysOk q.es
  have ih := alN_keys (b := b) (lf := lf) (P := P) h h0 hg n (by omega)
  have ho := alN_ok (b := b) (lf := lf) (P := P) h n
  intro q hq
  by_cases hk : (P n).kind = 1
  ·rw [alStep_print hk] at hq
   rcases List.mem_append.1 hq with h1 | h1
   ·exact ih q h1
   ·exact cmpQ_keys ho.1 q h1
  ·rw [alStep_ents hk] at hq
   rcases List.mem_append.1 hq with h1 | h1
   ·exact ih q h1
   ·have h9 := rp_keys (p := P n) ho.1 (good_map (hg n (by omega)))
    by_cases h8 : rpL (P n) (alN b lf a P n).s.l = []
    ·rw [rpQ_nil h8] at h1; cases h1
    ·rw [rpQ_one h8, List.mem_singleton] at h1; subst h1; exact h9
theorem alX_keys {b lf : Int} {l : List En} {ck : Int} {P : Nat → Pm} {n : Nat} (h : MapL l ∧ l.length ≤ 256) : ∀ q ∈ (alX b lf l ck P n).out, KeysOk q.es := by
 by_cases h0 : aErr b lf P n = 0
 ·rw [alX_yes h0]
  exact alN_keys (a := ⟨⟨l, ck, 0, 0⟩, []⟩) h (fun q hq => by cases hq) (aErr_ok h0).2.2.2.2 n (Nat.le_refl _)
 ·rw [alX_no h0]; intro q hq; cases hq
set_option maxHeartbeats 12800000 in
set_option maxRecDepth 100000 in
theorem partsLaw_any (a : Option Addr) (len cap : Nat) (T : Nat → En) (pa : Option Addr) (pl pc : Nat) (P : Nat → Pm) (b lf : Int) (w : World) (h : EntsIn w a len cap T) (hform : (a = none ∧ len = 0 ∧ cap = 0) ∨ ∃ y, a = some y) (hP : PartsIn w pa pl pc P) (L : Lanes w) :
    Calls Tryz.prog 3 #[.slice a len cap, .slice pa pl pc, .int .i64 b, .int .i64 lf] w fun e w' => e = .returned (.bool true) ∧ Below w.heap.size w w' := by
 have HE := aside h
 have HF := aside hform
 have LL := aside L
 have HP := aside hP
 clear h hform L hP
 have NB := bnew w (.cells #[.slice a len cap] 22)
 have B2 := aside NB
 have LI := aside (show ListsIn (w.alloc (.cells #[.slice a len cap] 22)) w.heap.size 1 (fun _ => a) (fun _ => len) (fun _ => cap) (fun _ => T) from fun k hk => by
  obtain rfl : k = 0 := by omega
  exact ⟨cell_one (heap_alloc_new w (.cells #[.slice a len cap] 22)), HE.out.keep NB⟩)
 clear NB
 obtain ⟨w2, hw2⟩ : ∃ w2, w.alloc (.cells #[.slice a len cap] 22) = w2 := ⟨_, rfl⟩
 rw [hw2] at B2 LI
 have C2 := aside (beyond13_any pa pl pc P w.heap.size 1 1 _ _ _ _ w2 (by omega) LI.out (HP.out.keep B2.out))
 go_enter Tryz.func3, Tryz.ntmps3
 go_wp2_with fail
 refine C2.out.mono ?_
 rintro e w3 ⟨q, rfl, hby, b3⟩
 have HBY := aside hby
 have B3 := aside (bthen B2.out b3)
 clear b3 C2 LI B2 hw2 hby
 cases q with
 | true =>
  go_wp2
  go_ret
  exact ⟨rfl, B3.out⟩
 | false =>
  have HWT := aside (show totE P pl ≤ 536870912 ∧ pl ≤ 536870912 from by have := HBY.out rfl; omega)
  clear HBY
  have C3 := aside (right13_any 1 a len cap T w3 (HE.out.keep B3.out) HF.out)
  go_wp2_with fail
  refine C3.out.mono ?_
  rintro e w4 ⟨q, rfl, hq, b4⟩
  have B4 := aside (bthen B3.out b4)
  have HQ := aside hq
  clear b4 C3 B3 hq
  cases q with
  | false =>
   go_wp2
   go_ret
   exact ⟨rfl, B4.out⟩
  | true =>
   have HO := aside (HQ.out.1 rfl)
   have C4 := aside (made13_any 1 a len cap T w4 (HE.out.keep B4.out) HF.out (LL.out.keep B4.out) HO.out)
   go_wp2_with fail
   refine C4.out.mono ?_
   rintro e w5 ⟨sa, ga, ta, da, rfl, pp, b5⟩
   have BA := bthen b5 (bnew w5 (.cells #[.pointer (some ⟨sa, 0, none⟩), .pointer (some ⟨da, 0, none⟩)] 29))
   have B6 := aside (bthen B4.out BA)
   have QA := aside (pp.below (bnew w5 (.cells #[.pointer (some ⟨sa, 0, none⟩), .pointer (some ⟨da, 0, none⟩)] 29)))
   have KA := aside (heap_alloc_new w5 (.cells #[.pointer (some ⟨sa, 0, none⟩), .pointer (some ⟨da, 0, none⟩)] 29))
   obtain ⟨pA, hpA⟩ : ∃ pA, w5.heap.size = pA := ⟨_, rfl⟩
   rw [hpA] at KA
   have HGA := aside (show w.heap.size ≤ sa ∧ w.heap.size ≤ ga ∧ w.heap.size ≤ ta ∧ w.heap.size ≤ da ∧ w4.heap.size < sa ∧ w4.heap.size < ga ∧ w4.heap.size < ta from by have h1 := pp.s; have h2 := pp.g; have h3 := pp.t; have h5 := pp.d; have h4 := B4.out.size; omega)
   have HD0 := aside (show w4.heap.size + 1 ≤ (w5.alloc (.cells #[.pointer (some ⟨sa, 0, none⟩), .pointer (some ⟨da, 0, none⟩)] 29)).heap.size from by have h1 := lt_of_blk (show w5.heap[sa]? = some _ from by obtain ⟨T9, n9, s9, -⟩ := pp.code; exact s9.blk); have h2 := pp.s; simp; omega)
   clear b5 pp C4 BA
   obtain ⟨w6, hw6⟩ : ∃ w6, w5.alloc (.cells #[.pointer (some ⟨sa, 0, none⟩), .pointer (some ⟨da, 0, none⟩)] 29) = w6 := ⟨_, rfl⟩
   rw [hw6] at B6 QA KA HD0
   have HLA := aside QA.out.code.lt
   have C5 := aside (made13_any 1 a len cap T w6 (HE.out.keep B6.out) HF.out (LL.out.keep B6.out) HO.out)
   go_wp2_with fail
   refine C5.out.mono ?_
   rintro e w7 ⟨sb, g, tb, db, rfl, pp, b5⟩
   have BA := bthen b5 (bnew w7 (.cells #[.pointer (some ⟨sb, 0, none⟩), .pointer (some ⟨db, 0, none⟩)] 29))
   have B8 := aside (bthen B6.out BA)
   have QB := aside (pp.below (bnew w7 (.cells #[.pointer (some ⟨sb, 0, none⟩), .pointer (some ⟨db, 0, none⟩)] 29)))
   have KB := aside (heap_alloc_new w7 (.cells #[.pointer (some ⟨sb, 0, none⟩), .pointer (some ⟨db, 0, none⟩)] 29))
   obtain ⟨pB, hpB⟩ : ∃ pB, w7.heap.size = pB := ⟨_, rfl⟩
   rw [hpB] at KB
   have HGB := aside (show w.heap.size ≤ sb ∧ w.heap.size ≤ g ∧ w.heap.size ≤ tb ∧ w.heap.size ≤ db ∧ w6.heap.size < sb ∧ w6.heap.size < g ∧ w6.heap.size < tb from by have h1 := pp.s; have h2 := pp.g; have h3 := pp.t; have h5 := pp.d; have h4 := B6.out.size; omega)
   have HD1 := aside (show w6.heap.size + 1 ≤ (w7.alloc (.cells #[.pointer (some ⟨sb, 0, none⟩), .pointer (some ⟨db, 0, none⟩)] 29)).heap.size from by have h1 := lt_of_blk (show w7.heap[sb]? = some _ from by obtain ⟨T9, n9, s9, -⟩ := pp.code; exact s9.blk); have h2 := pp.s; simp; omega)
   have QA8 := aside (QA.out.below BA)
   have KA8 := aside (blk_on KA.out BA)
   clear b5 pp C5 BA
   obtain ⟨w8, hw8⟩ : ∃ w8, w7.alloc (.cells #[.pointer (some ⟨sb, 0, none⟩), .pointer (some ⟨db, 0, none⟩)] 29) = w8 := ⟨_, rfl⟩
   rw [hw8] at B8 QB KB HD1 QA8 KA8
   have HAP := aside (show sa ≠ sb ∧ ga ≠ g ∧ ta ≠ tb from by have h1 := HLA.out; have h2 := HGB.out; omega)
   have HD8 := aside (show w4.heap.size + 1 ≤ w8.heap.size from by have h1 := HD0.out; have h2 := HD1.out; omega)
   clear KA QA HD0 HD1 HLA hw6 B6
   generalize (w4.heap.size + 1) = D0 at *
   generalize (w6.heap.size + 1) = D1 at *
   have HL256 := aside HO.out.len
   have HMP := aside HO.out.map
   clear HE HF HQ HO
   generalize (firstE T len) = l at *
   have P8 := aside (HP.out.keep B8.out)
   obtain ⟨u0, u1⟩ := two_cells KA8.out
   have C6 := aside (allC_any b lf pa pl pc P QA8.out.code QA8.out.lanes HMP.out HL256.out P8.out (by have := HWT.out; omega) (by have := HWT.out; omega))
   have C7 := aside (fun (W : World) (hd : DSt W D0 da 1 1099511627776 l) (hD : D0 ≤ W.heap.size) (hp : PartsIn W pa pl pc P) => rall13_any b lf pa pl pc P hd HMP.out HL256.out hD hp)
   have HAX := aside (fun (h0 : aErr b lf P pl = 0) => alX_yes (Ls := l) (ck := 1099511627776) h0)
   have HAN := aside (fun (h0 : aErr b lf P pl ≠ 0) => alX_no (Ls := l) (ck := 1099511627776) h0)
   have HAE := aside (fun (h0 : aErr b lf P pl = 0) => aErr_ok h0)
   have HOKX := aside (show MapL (alX b lf l 1099511627776 P pl).s.l ∧ (alX b lf l 1099511627776 P pl).s.l.length ≤ 256 from by
    by_cases h0 : aErr b lf P pl = 0
    ·rw [alX_yes h0]; exact alN_ok (a := ⟨⟨l, 1099511627776, 0, 0⟩, []⟩) ⟨HMP.out, HL256.out⟩ pl
    ·rw [alX_no h0]; exact ⟨HMP.out, HL256.out⟩)
   have HOKK := aside (show ∀ q ∈ (alX b lf l 1099511627776 P pl).out, KeysOk q.es from alX_keys ⟨HMP.out, HL256.out⟩)
   obtain ⟨sx, hsx⟩ : ∃ sx, alX b lf l 1099511627776 P pl = sx := ⟨_, rfl⟩
   rw [hsx] at C6 C7 HAX HAN HOKX HOKK
   clear hsx
   obtain ⟨⟨lX, cX, nX, fX⟩, oX⟩ := sx
   dsimp only at C6 C7 HOKX HOKK
   obtain ⟨ae, hae⟩ : ∃ ae, aErr b lf P pl = ae := ⟨_, rfl⟩
   rw [hae] at C6 C7 HAX HAN HAE
   go_wp2_with fail
   refine C6.out.mono ?_
   rintro e w9 ⟨v9, rfl, t9, s9, k9, l9⟩
   have BN := bnew w9 (.cells #[.int .i64 (nX : Int), .int .i64 (fX : Int)] 33)
   have SA := aside (s9.below BN)
   have DA := aside ((QA8.out.doc.keeps QA8.out.code k9).below BN)
   have SB := aside ((QB.out.code.keep QA8.out.code k9 (fun e => HAP.out.1 e.symm) (fun e => HAP.out.2.1 e.symm) (fun e => HAP.out.2.2 e.symm)).below BN)
   have LN := aside (l9.keep BN)
   have TX := aside (t9.below BN)
   have KA9 := aside (blk_on (blk_keep KA8.out k9 (QA8.out.code.not KA8.out (by decide) (by decide) (by decide))) BN)
   have KB9 := aside (blk_on (blk_keep KB.out k9 (QA8.out.code.not KB.out (by decide) (by decide) (by decide))) BN)
   have KH9 := aside (heap_alloc_new w9 (.cells #[.int .i64 (nX : Int), .int .i64 (fX : Int)] 33))
   have P9 := aside ((P8.out.keepS QA8.out.code k9).keep BN)
   have B9 := aside ((B8.out.trans (k9.below B8.out.size (fun k hk => by have := HGA.out; unfold Of; omega))).alloc (by have h1 := B8.out.size; have h2 := k9.size; omega) (.cells #[.int .i64 (nX : Int), .int .i64 (fX : Int)] 33))
   have HD9 := aside (show D0 ≤ (w9.alloc (.cells #[.int .i64 (nX : Int), .int .i64 (fX : Int)] 33)).heap.size from by have h1 := HD8.out; have h2 := k9.size; simp; omega)
   have HPA := aside (show D0 ≤ sa ∧ D0 ≤ ga ∧ D0 ≤ ta ∧ D0 ≤ da from ⟨QA8.out.s, QA8.out.g, QA8.out.t, QA8.out.d⟩)
   clear s9 k9 l9 t9 BN C6 KA8 KB QA8 QB P8 B8 HD8 u0 u1 hw8
   obtain ⟨hx, hhx⟩ : ∃ hx, w9.heap.size = hx := ⟨_, rfl⟩
   rw [hhx] at KH9
   obtain ⟨w10, hw10⟩ : ∃ w10, w9.alloc (.cells #[.int .i64 (nX : Int), .int .i64 (fX : Int)] 33) = w10 := ⟨_, rfl⟩
   rw [hw10] at SA DA SB LN TX KA9 KB9 KH9 P9 B9 HD9
   obtain ⟨u0, u1⟩ := two_cells KA9.out
   have C7a := aside (C7.out w10 DA.out HD9.out P9.out)
   clear C7
   go_wp2_with fail
   refine C7a.out.mono ?_
   rintro e w11 ⟨v11, rfl, t11, d11, k11⟩
   have BN := bnew w11 (.cells #[.int .i64 (nX : Int), .int .i64 (fX : Int)] 33)
   have PA := aside ((show Pair2 w11 D0 sa ga ta da 1 cX lX from ⟨SA.out.keepD DA.out k11, d11, LN.out.keeps k11 (LN.out.doc DA.out), HPA.out.1, HPA.out.2.1, HPA.out.2.2.1, HPA.out.2.2.2⟩).below BN)
   have SB2 := aside ((SB.out.keepD DA.out k11).below BN)
   have TX2 := aside ((TX.out.keepD DA.out k11).below BN)
   have KA2 := aside (blk_on (blk_keep KA9.out k11 (DA.out.other KA9.out (by decide))) BN)
   have KB2 := aside (blk_on (blk_keep KB9.out k11 (DA.out.other KB9.out (by decide))) BN)
   have KH2 := aside (blk_on (blk_keep KH9.out k11 (DA.out.other KH9.out (by decide))) BN)
   have P2 := aside ((P9.out.keepD DA.out k11).keep BN)
   have BB := aside ((B9.out.trans (k11.below B9.out.size (fun k hk => by have := HGA.out; omega))).alloc (by have h1 := B9.out.size; have h2 := k11.size; omega) (.cells #[.int .i64 (nX : Int), .int .i64 (fX : Int)] 33))
   clear d11 k11 t11 BN C7a SA DA SB LN TX KA9 KB9 KH9 P9 B9 HD9 u0 u1 hw10
   obtain ⟨w12, hw12⟩ : ∃ w12, w11.alloc (.cells #[.int .i64 (nX : Int), .int .i64 (fX : Int)] 33) = w12 := ⟨_, rfl⟩
   rw [hw12] at PA SB2 TX2 KA2 KB2 KH2 P2 BB
   by_cases hae0 : ae = 0
   rotate_left
   ·have haeb : (ae == 0) = false := by simpa using hae0
    obtain ⟨u0, u1⟩ := two_cells KA2.out
    have CT := aside (still13_any PA.out HOKX.out.1 HOKX.out.2)
    go_wp2_with fail
    refine CT.out.mono ?_
    rintro e w13 ⟨rfl, b13⟩
    have B13 := aside (bthen BB.out b13)
    clear b13 CT u0 u1
    go_wp2
    go_ret
    exact ⟨rfl, B13.out⟩
   subst hae0
   obtain ⟨hIB, hPSC, -, hTOT, hGOOD⟩ := HAE.out rfl
   have HIB := aside hIB
   have HPS := aside hPSC
   have HTOT := aside hTOT
   have HGOOD := aside hGOOD
   have HAX0 := aside (HAX.out rfl)
   clear HAX HAN HAE hIB hPSC hTOT hGOOD
   have HOK := aside (fun j => alN_ok (b := b) (lf := lf) (a := ⟨⟨l, 1099511627776, 0, 0⟩, []⟩) (P := P) ⟨HMP.out, HL256.out⟩ j)
   have HLEN := aside (fun j => alN_len (b := b) (lf := lf) (a := ⟨⟨l, 1099511627776, 0, 0⟩, []⟩) (P := P) HIB.out rfl j)
   have HNUM := aside (fun j => alN_num (b := b) (lf := lf) (a := ⟨⟨l, 1099511627776, 0, 0⟩, []⟩) (P := P) j)
   have HST := aside (fun j => show alN b lf ⟨⟨l, 1099511627776, 0, 0⟩, []⟩ P (j + 1) = alStep b lf (alN b lf ⟨⟨l, 1099511627776, 0, 0⟩, []⟩ P j) (P j) from rfl)
   have NB1 := bnew w12 (.cells #[] 47)
   have NB2 := bnew (w12.alloc (.cells #[] 47)) (.cells #[.int .i64 0, .int .i64 0] 33)
   have T0 := aside ((Told.emp (ownP_empty w12 w12.heap.size (Nat.le_refl _))).below NB2)
   have SB0 := aside (SB2.out.below (bthen NB1 NB2))
   have KG0 := aside (heap_alloc_new (w12.alloc (.cells #[] 47)) (.cells #[.int .i64 0, .int .i64 0] 33))
   rw [World.size_alloc] at KG0
   have L0 := aside (PA.out.lanes.keep (bthen NB1 NB2))
   have KK0 := aside (Keeps.of_below (bthen NB1 NB2) (Of sb g tb))
   have HW0 := aside (show 0 < w12.heap.size from by have := PA.out.code.lt; omega)
   have hpl : (pl : Int) ≤ 536870912 := by have := HWT.out; omega
   have hpc := P2.out.1
   obtain ⟨gb, hgb⟩ : ∃ gb, w12.heap.size + 1 = gb := ⟨_, rfl⟩
   rw [hgb] at KG0
   have HGB2 := aside (show w12.heap.size < gb from by omega)
   clear NB1 NB2
   go_wp2_with fail
   go_loopw [19, 21] (fun v i wr => ∃ j : Nat, i = .int .i64 (j : Int) ∧ j ≤ pl ∧ Hid (Told w12.heap.size v (alN b lf ⟨⟨l, 1099511627776, 0, 0⟩, []⟩ P j).out wr) ∧ Hid (Sto wr sb g tb 1 (alN b lf ⟨⟨l, 1099511627776, 0, 0⟩, []⟩ P j).s.c (alN b lf ⟨⟨l, 1099511627776, 0, 0⟩, []⟩ P j).s.l) ∧ Hid (wr.heap[gb]? = some (.cells #[.int .i64 ((alN b lf ⟨⟨l, 1099511627776, 0, 0⟩, []⟩ P j).s.n : Int), .int .i64 ((alN b lf ⟨⟨l, 1099511627776, 0, 0⟩, []⟩ P j).s.f : Int)] 33 (0, 0))) ∧ Hid (Keeps (Of sb g tb) w12 wr) ∧ Hid (Lanes wr)) (fun v i _ => pl - (intOf i).toNat)
   case atStart => exact ⟨0, rfl, Nat.zero_le _, T0, SB0, KG0, KK0, L0⟩
   case round =>
    obtain ⟨j, rfl, hj, HT1, HS1, HH1, HK1, HL1⟩ := hrel
    clear T0 SB0 KG0 KK0 L0
    have h1 := HOK.out j
    have h2 := HLEN.out j
    have h3 := HNUM.out j
    have h4 := HST.out j
    obtain ⟨s, hs⟩ : ∃ s, alN b lf ⟨⟨l, 1099511627776, 0, 0⟩, []⟩ P j = s := ⟨_, rfl⟩
    have HSJ := aside hs
    rw [hs] at HT1 HS1 HH1 h1 h2 h3 h4
    obtain ⟨⟨Lj, cj, n, f⟩, out⟩ := s
    dsimp only at HT1 HS1 HH1 h1 h2 h3
    have HMJ := aside h1
    have HOL := aside h2
    have HSP := aside h4
    have HNF := aside (show n ≤ 256 ∧ f ≤ 256 from by have h5 := HTOT.out; have h6 := totE_mono P hj; omega)
    clear h1 h2 h3 h4 hs
    obtain ⟨a9, c9, rfl⟩ := HT1.out.slice
    by_cases hlt : (j : Int) < (pl : Int)
    ·have hj0 : (0 : Int) ≤ (j : Int) := by omega
     have hjl : j < pl := by omega
     have hPI := P2.out.keepS SB2.out HK1.out
     rcases hPI.2.2 with h0 | ⟨bp, off, rfl, hbp, hc⟩
     ·omega
     have NB := bthen (bnew wr (.cells #[] 47)) (bnew _ (.cells #[.int .i64 0, .int .i64 0] 33))
     obtain ⟨⟨c0, c1, c2, c3, c4, c5, c6, c7⟩, hin⟩ := hc j hjl
     have d0 := cell_in c0 NB
     have d1 := cell_in c1 NB
     have d2 := cell_in c2 NB
     have d3 := cell_in c3 NB
     have d4 := cell_in c4 NB
     have d5 := cell_in c5 NB
     have d6 := cell_in c6 NB
     have d7 := cell_in c7 NB
     have KBj := aside (blk_on (blk_keep KB2.out HK1.out (SB2.out.not KB2.out (by decide) (by decide) (by decide))) NB)
     have HEJ := aside (show (P j).el ≤ 256 from by have h5 := HTOT.out; have h6 := el_totE P hjl; omega)
     have HMAP := aside (good_map (HGOOD.out j hjl))
     have HSC := aside (fun hk => single_c (i := j) HIB.out HPS.out hjl hk)
     have HSX := aside (fun hk => single_x (i := j) HPS.out hjl hk)
     obtain ⟨p, hp⟩ : ∃ p, P j = p := ⟨_, rfl⟩
     rw [hp] at d0 d1 d2 d3 d4 d5 d6 d7 hin HEJ HMAP HSP HSC HSX
     have HIN := aside (hin.keep NB)
     have SX := aside (HS1.out.below NB)
     have LX := aside (HL1.out.keep NB)
     have TJ := aside (HT1.out.below NB)
     have GJ := aside (blk_on HH1.out NB)
     have KJ := aside (HK1.out.trans (Keeps.of_below NB _))
     have KZ := aside (heap_alloc_new (wr.alloc (.cells #[] 47)) (.cells #[.int .i64 0, .int .i64 0] 33))
     rw [World.size_alloc] at KZ
     have HLB := aside (show gb < wr.heap.size from lt_of_blk HH1.out)
     have hwr : IntKind.i64.wrap ((j : Int) + 1) = (((j + 1 : Nat)) : Int) := by rw [IntKind.wrap_i64]; omega
     obtain ⟨kb, hkb2⟩ : ∃ kb, wr.heap.size + 1 = kb := ⟨_, rfl⟩
     rw [hkb2] at KZ
     have HKB := aside (show gb < kb ∧ kb ≠ gb ∧ gb ≠ kb from by have := HLB.out; omega)
     clear hin hc hPI hp c0 c1 c2 c3 c4 c5 c6 c7 NB HT1 HS1 HH1 HK1 HL1
     obtain ⟨u0, u1⟩ := two_cells KBj.out
     have HBO := aside hbp
     by_cases hk : p.kind = 1
     ·have hkb : (p.kind == 1) = true := by simpa using hk
      have HNX := aside (show alN b lf ⟨⟨l, 1099511627776, 0, 0⟩, []⟩ P (j + 1) = ⟨⟨Lj, cj, n, f⟩, out ++ cmpQ b lf p.rg p.cnt p.s0 p.s1 Lj⟩ from by rw [HSP.out, alStep_print hk])
      have HQK := aside (cmpQ_keys (b := b) (lf := lf) (r := p.rg) (cnt := p.cnt) (s0 := p.s0) (s1 := p.s1) HMJ.out.1)
      have HQL := aside (cmpQ_len (r := p.rg) (cnt := p.cnt) (s0 := p.s0) (s1 := p.s1) (Ls := Lj) HIB.out)
      have HCZ := HSC.out hk
      have HCY := cQ_yes (Ls := Lj) HCZ
      have C8 := aside (fun (W : World) (hs : Sto W sb g tb 1 cj Lj) (hL : Lanes W) (hp : p.In W) => by
       have h9 := cmpX_any b lf p hs hL HMJ.out.1 HMJ.out.2 hp (by have := HEJ.out; omega)
       rw [HCY, HCZ] at h9
       exact h9)
      clear hk HCZ HCY
      obtain ⟨ql, hql⟩ : ∃ ql, cmpQ b lf p.rg p.cnt p.s0 p.s1 Lj = ql := ⟨_, rfl⟩
      rw [hql] at C8 HNX HQK HQL
      clear hql
      go_wp2_with fail
      obtain ⟨X, hX⟩ : ∃ X, ((wr.alloc (.cells #[] 47)).alloc (.cells #[.int .i64 0, .int .i64 0] 33)) = X := ⟨_, rfl⟩
      rw [hX] at d0 d1 d2 d3 d4 d5 d6 d7 u0 u1 SX LX TJ GJ KJ KZ HIN KBj ⊢
      have HNB := aside (SX.out.not KBj.out (by decide) (by decide) (by decide))
      have HNP := aside (SX.out.str d1)
      clear u1 hX
      refine wp_region_held_drew (S := fun W => W.cell? ⟨pB, 0, none⟩ = some (.pointer (some ⟨sb, 0, none⟩)) ∧ W.cell? ⟨bp, off + j * 8, none⟩ = some (.int .i64 p.kind) ∧ W.cell? ⟨bp, off + j * 8 + 1, none⟩ = some (.string p.lo) ∧ W.cell? ⟨bp, off + j * 8 + 2, none⟩ = some (.string p.hi) ∧ W.cell? ⟨bp, off + j * 8 + 3, none⟩ = some (.bool p.op) ∧ W.cell? ⟨bp, off + j * 8 + 4, none⟩ = some (.int .i64 p.cnt) ∧ W.cell? ⟨bp, off + j * 8 + 5, none⟩ = some (.int .u64 p.s0) ∧ W.cell? ⟨bp, off + j * 8 + 6, none⟩ = some (.int .u64 p.s1) ∧ W.cell? ⟨bp, off + j * 8 + 7, none⟩ = some (.slice p.ea p.el p.ec)) (by kernel_rfl) ⟨u0, d0, d1, d2, d3, d4, d5, d6, d7⟩ (fun hHeld => ?_)
      refine tk 0 rfl _ ?_; refine tk 1 rfl _ ?_; refine tk 2 rfl _ ?_; refine tk 3 rfl _ ?_; refine tk 4 rfl _ ?_; refine tk 5 rfl _ ?_; refine tk 6 rfl _ ?_; refine tk 7 rfl _ ?_
      refine rd 8 rfl fun K hK => ?_
      go_simp
      refine (C8.out _ (SX.out.below (Below.refl _ X).drew) (LX.out.keep (Below.refl _ X).drew) (HIN.out.keep (Below.refl _ X).drew)).mono ?_
      rintro e w9 ⟨v4, rfl, t4, s4, k9, l4⟩
      refine hK.out _ _ (⟨((k9.cell (World.block_lt_of_cell? _ _ hHeld.1) HNB.out).trans hHeld.1), ((k9.cell (World.block_lt_of_cell? _ _ hHeld.2.1) HNP.out).trans hHeld.2.1), ((k9.cell (World.block_lt_of_cell? _ _ hHeld.2.2.1) HNP.out).trans hHeld.2.2.1), ((k9.cell (World.block_lt_of_cell? _ _ hHeld.2.2.2.1) HNP.out).trans hHeld.2.2.2.1), ((k9.cell (World.block_lt_of_cell? _ _ hHeld.2.2.2.2.1) HNP.out).trans hHeld.2.2.2.2.1), ((k9.cell (World.block_lt_of_cell? _ _ hHeld.2.2.2.2.2.1) HNP.out).trans hHeld.2.2.2.2.2.1), ((k9.cell (World.block_lt_of_cell? _ _ hHeld.2.2.2.2.2.2.1) HNP.out).trans hHeld.2.2.2.2.2.2.1), ((k9.cell (World.block_lt_of_cell? _ _ hHeld.2.2.2.2.2.2.2.1) HNP.out).trans hHeld.2.2.2.2.2.2.2.1), ((k9.cell (World.block_lt_of_cell? _ _ hHeld.2.2.2.2.2.2.2.2) HNP.out).trans hHeld.2.2.2.2.2.2.2.2)⟩) (fun hHeld => ?_)
      clear hK K 
      refine tk 9 rfl _ ?_; refine tk 10 rfl _ ?_; refine tk 11 rfl _ ?_; refine tk 12 rfl _ ?_; refine tk 13 rfl _ ?_
      refine wpAnyH_done (by kernel_rfl) ?_ _
      clear hHeld d0 d1 d2 d3 d4 d5 d6 d7 u0
      have DB := (Below.refl X.heap.size X).drew
      have SXD := SX.out.below DB
      have T4 := aside ((TJ.out.below DB).keepS SXD k9)
      have U4 := aside t4
      have S4 := aside s4
      have L4 := aside l4
      have H4 := aside (blk_keep (blk_on GJ.out DB) k9 (SXD.not (blk_on GJ.out DB) (by decide) (by decide) (by decide)))
      have G4 := aside (blk_keep (blk_on KZ.out DB) k9 (SXD.not (blk_on KZ.out DB) (by decide) (by decide) (by decide)))
      have K4 := aside ((KJ.out.trans (Keeps.of_below DB _)).trans k9)
      have HC4 := aside (show w12.heap.size ≤ X.drew.heap.size from KJ.out.size)
      clear t4 s4 k9 l4 DB SXD C8 SX LX TJ GJ KJ KZ KBj hkb
      go_wp2_with (at_builtin; go_loud (refine wpList_plain rfl fun K hK => op_append_told (B := w12.heap.size) _ _ rfl _ out (by rfl) T4.out _ ql (by rfl) U4.out HQK.out HC4.out (by have h5 := HOL.out; have h6 := HQL.out; have h7 := HWT.out; omega) K4.out.size ?_); intro v6 w6 t6 gr6; refine hK _ _ ?_; refine Hid.out ?_)
      refine aside ?_
      obtain ⟨n9, xs9, o9, g9⟩ := gr6
      have T6 := aside t6
      have S6 := aside (S4.out.grownP o9 g9)
      have L6 := aside (L4.out.grownP HW0.out o9 g9)
      have H6 := aside (blk_grownP o9 g9 H4.out (by decide))
      have G6 := aside (blk_grownP o9 g9 G4.out (by decide))
      have K6 := aside (keeps_grownP K4.out o9 (Nat.le_refl _) g9)
      clear t6 o9 g9 T4 U4 S4 L4 H4 K4 G4
      have hn1 : IntKind.i64.wrap ((n : Int) + 0) = (n : Int) := by rw [IntKind.wrap_i64]; have h5 := HNF.out; omega
      have hn2 : IntKind.i64.wrap (n : Int) = (n : Int) := by rw [IntKind.wrap_i64]; have h5 := HNF.out; omega
      have hf1 : IntKind.i64.wrap ((f : Int) + 0) = (f : Int) := by rw [IntKind.wrap_i64]; have h5 := HNF.out; omega
      have hf2 : IntKind.i64.wrap (f : Int) = (f : Int) := by rw [IntKind.wrap_i64]; have h5 := HNF.out; omega
      obtain ⟨z0, z1⟩ := two_h H6.out
      obtain ⟨x0, x1⟩ := two_h G6.out
      have y0 := frozen_of_row _ _ 0 _ _ H6.out
      have y1 := frozen_of_row _ _ 1 _ _ H6.out
      have KF := aside (((Keeps.refl (fun x => x = gb) w6).setCell (p := ⟨gb, 0, none⟩) (fun _ => rfl) (.int .i64 (n : Int))).setCell (p := ⟨gb, 1, none⟩) (fun _ => rfl) (.int .i64 (f : Int)))
      have SF := aside (S6.out.set H6.out (by decide) (by decide) (by decide) (by decide) KF.out)
      have LF := aside (L6.out.keeps KF.out (fun (e : 0 = gb) => by have h8 := HGB2.out; omega))
      have TF := aside (T6.out.other H6.out (by decide) (by decide) KF.out)
      have KW := aside ((K6.out.setCell (p := ⟨gb, 0, none⟩) (fun hh => absurd hh (by have h8 := HGB2.out; simp; omega)) (.int .i64 (n : Int))).setCell (p := ⟨gb, 1, none⟩) (fun hh => absurd hh (by have h8 := HGB2.out; simp; omega)) (.int .i64 (f : Int)))
      have KR := set_in 1 (.int .i64 (f : Int)) (set_in 0 (.int .i64 (n : Int)) H6.out)
      simp only [List.setIfInBounds_toArray, List.set_cons_zero, List.set_cons_succ] at KR
      have HKR := aside KR
      have hne : kb ≠ gb := HKB.out.2.1
      have hne2 : gb ≠ kb := HKB.out.2.2
      clear KR KF T6 S6 L6 K6
      go_wp2
      go_roundw
      case rel => exact ⟨j + 1, by go_num, by omega, by rw [HNX.out]; exact TF, by rw [HNX.out]; exact SF, by rw [HNX.out]; exact HKR, KW, LF⟩
      case measure => simp [intOf]; omega
     ·have hkb : (p.kind == 1) = false := by simpa using hk
      have HXZ := HSX.out hk
      have HNX0 := aside (show alN b lf ⟨⟨l, 1099511627776, 0, 0⟩, []⟩ P (j + 1) = _ from by rw [HSP.out, alStep_ents hk])
      have HNX1 := aside (tkAll_n (s := ⟨Lj, cj, 0, 0⟩) p.T p.el)
      have C8 := aside (fun (W : World) (hs : Sto W sb g tb 1 cj Lj) (hL : Lanes W) (hp : p.In W) => by
       have h9 := xchgU p hs HMJ.out.1 HMJ.out.2 hp (by have := HEJ.out; omega) hL
       unfold tkX xQ at h9
       rw [if_pos HXZ, if_pos HXZ, HXZ] at h9
       exact h9)
      have HQK := aside (show ∀ q ∈ rpQ p Lj, KeysOk q.es from fun q hq => by
       have h9 := rp_keys (p := p) HMJ.out.1 HMAP.out
       by_cases h8 : rpL p Lj = []
       ·rw [rpQ_nil h8] at hq; cases hq
       ·rw [rpQ_one h8, List.mem_singleton] at hq; subst hq; exact h9)
      have HQL := aside (rpQ_len p Lj)
      clear hk HXZ
      dsimp only at HNX0 HNX1
      obtain ⟨s2, hs2⟩ : ∃ s2, tkAll ⟨Lj, cj, 0, 0⟩ (firstE p.T p.el) = s2 := ⟨_, rfl⟩
      rw [hs2] at C8 HNX0 HNX1
      obtain ⟨L7, c77, n7, f7⟩ := s2
      dsimp only at C8 HNX0 HNX1
      obtain ⟨ql, hql⟩ : ∃ ql, rpQ p Lj = ql := ⟨_, rfl⟩
      rw [hql] at C8 HNX0 HQK HQL
      clear hql
      go_wp2_with fail
      obtain ⟨X, hX⟩ : ∃ X, ((wr.alloc (.cells #[] 47)).alloc (.cells #[.int .i64 0, .int .i64 0] 33)) = X := ⟨_, rfl⟩
      rw [hX] at d0 d1 d2 d3 d4 d5 d6 d7 u0 u1 SX LX TJ GJ KJ KZ HIN KBj ⊢
      have HNB := aside (SX.out.not KBj.out (by decide) (by decide) (by decide))
      have HNP := aside (SX.out.str d1)
      have HPK := aside (show pB ≠ kb ∧ bp ≠ kb from ⟨fun e => by subst e; rw [KZ.out] at KBj; have := KBj.out; simp at this, fun e => by subst e; simp only [World.cell?, KZ.out] at d1; rcases hh : off + j * 8 + 1 with _ | _ | _ <;> simp [hh] at d1⟩)
      clear u1 hX
      refine wp_region_held_drew (S := fun W => W.cell? ⟨pB, 0, none⟩ = some (.pointer (some ⟨sb, 0, none⟩)) ∧ W.cell? ⟨bp, off + j * 8, none⟩ = some (.int .i64 p.kind) ∧ W.cell? ⟨bp, off + j * 8 + 1, none⟩ = some (.string p.lo) ∧ W.cell? ⟨bp, off + j * 8 + 2, none⟩ = some (.string p.hi) ∧ W.cell? ⟨bp, off + j * 8 + 3, none⟩ = some (.bool p.op) ∧ W.cell? ⟨bp, off + j * 8 + 4, none⟩ = some (.int .i64 p.cnt) ∧ W.cell? ⟨bp, off + j * 8 + 5, none⟩ = some (.int .u64 p.s0) ∧ W.cell? ⟨bp, off + j * 8 + 6, none⟩ = some (.int .u64 p.s1) ∧ W.cell? ⟨bp, off + j * 8 + 7, none⟩ = some (.slice p.ea p.el p.ec)) (by kernel_rfl) ⟨u0, d0, d1, d2, d3, d4, d5, d6, d7⟩ (fun hHeld => ?_)
      refine tk 0 rfl _ ?_; refine tk 1 rfl _ ?_; refine tk 2 rfl _ ?_; refine tk 3 rfl _ ?_; refine tk 4 rfl _ ?_; refine tk 5 rfl _ ?_
      refine rd 6 rfl fun K hK => ?_
      go_simp
      refine (C8.out _ (SX.out.below (Below.refl _ X).drew) (LX.out.keep (Below.refl _ X).drew) (HIN.out.keep (Below.refl _ X).drew)).mono ?_
      rintro e w9 ⟨v4, rfl, t4, s4, k9, l4⟩
      refine hK.out _ _ (⟨((k9.cell (World.block_lt_of_cell? _ _ hHeld.1) HNB.out).trans hHeld.1), ((k9.cell (World.block_lt_of_cell? _ _ hHeld.2.1) HNP.out).trans hHeld.2.1), ((k9.cell (World.block_lt_of_cell? _ _ hHeld.2.2.1) HNP.out).trans hHeld.2.2.1), ((k9.cell (World.block_lt_of_cell? _ _ hHeld.2.2.2.1) HNP.out).trans hHeld.2.2.2.1), ((k9.cell (World.block_lt_of_cell? _ _ hHeld.2.2.2.2.1) HNP.out).trans hHeld.2.2.2.2.1), ((k9.cell (World.block_lt_of_cell? _ _ hHeld.2.2.2.2.2.1) HNP.out).trans hHeld.2.2.2.2.2.1), ((k9.cell (World.block_lt_of_cell? _ _ hHeld.2.2.2.2.2.2.1) HNP.out).trans hHeld.2.2.2.2.2.2.1), ((k9.cell (World.block_lt_of_cell? _ _ hHeld.2.2.2.2.2.2.2.1) HNP.out).trans hHeld.2.2.2.2.2.2.2.1), ((k9.cell (World.block_lt_of_cell? _ _ hHeld.2.2.2.2.2.2.2.2) HNP.out).trans hHeld.2.2.2.2.2.2.2.2)⟩) (fun hHeld => ?_)
      clear hK K 
      refine tk 7 rfl _ ?_; refine tk 8 rfl _ ?_; refine tk 9 rfl _ ?_; refine tk 10 rfl _ ?_; refine tk 11 rfl _ ?_
      have DB := (Below.refl X.heap.size X).drew
      have SXD := SX.out.below DB
      have TA4 := aside ((TJ.out.below DB).keepS SXD k9)
      have KG := aside (blk_keep (blk_on GJ.out DB) k9 (SXD.not (blk_on GJ.out DB) (by decide) (by decide) (by decide)))
      have KZ4 := aside (blk_keep (blk_on KZ.out DB) k9 (SXD.not (blk_on KZ.out DB) (by decide) (by decide) (by decide)))
      have KK4 := aside ((KJ.out.trans (Keeps.of_below DB _)).trans k9)
      have HC4 := aside (show w12.heap.size ≤ X.drew.heap.size from KJ.out.size)
      have U4a := aside t4
      have S4a := aside s4
      have L4a := aside l4
      have HNK := aside (show w12.heap.size ≤ kb from by have h8 := HGB2.out; have h9 := HKB.out.1; omega)
      clear t4 s4 k9 l4 DB SXD C8 SX LX TJ GJ KJ KZ KBj hkb
      obtain ⟨z0, z1⟩ := two_h KZ4.out
      have y0 := frozen_of_row _ _ 0 _ _ KZ4.out
      have y1 := frozen_of_row _ _ 1 _ _ KZ4.out
      have KF := aside (((Keeps.refl (fun x => x = kb) w9).setCell (p := ⟨kb, 0, none⟩) (fun _ => rfl) (.int .i64 (n7 : Int))).setCell (p := ⟨kb, 1, none⟩) (fun _ => rfl) (.int .i64 (f7 : Int)))
      have S4 := aside (S4a.out.set KZ4.out (by decide) (by decide) (by decide) (by decide) KF.out)
      have L4 := aside (L4a.out.keeps KF.out (fun (e : 0 = kb) => by have h8 := HKB.out.1; omega))
      have T4 := aside (TA4.out.other KZ4.out (by decide) (by decide) KF.out)
      have U4 := aside (U4a.out.other KZ4.out (by decide) (by decide) KF.out)
      have H4 := aside (blk_keep KG.out KF.out (fun (e : gb = kb) => HKB.out.2.2 e))
      have K4 := aside ((KK4.out.setCell (p := ⟨kb, 0, none⟩) (fun hh => absurd hh (by have h8 := HNK.out; simp; omega)) (.int .i64 (n7 : Int))).setCell (p := ⟨kb, 1, none⟩) (fun hh => absurd hh (by have h8 := HNK.out; simp; omega)) (.int .i64 (f7 : Int)))
      have KR := set_in 1 (.int .i64 (f7 : Int)) (set_in 0 (.int .i64 (n7 : Int)) KZ4.out)
      simp only [List.setIfInBounds_toArray, List.set_cons_zero, List.set_cons_succ] at KR
      have G4 := aside KR
      clear KR KF KZ4 KG KK4 U4a S4a L4a TA4
      refine rd 12 rfl fun K hK => ?_
      go_simp
      refine hK.out _ _ (⟨(cell_apart (cell_apart hHeld.1 HPK.out.1) HPK.out.1), (cell_apart (cell_apart hHeld.2.1 HPK.out.2) HPK.out.2), (cell_apart (cell_apart hHeld.2.2.1 HPK.out.2) HPK.out.2), (cell_apart (cell_apart hHeld.2.2.2.1 HPK.out.2) HPK.out.2), (cell_apart (cell_apart hHeld.2.2.2.2.1 HPK.out.2) HPK.out.2), (cell_apart (cell_apart hHeld.2.2.2.2.2.1 HPK.out.2) HPK.out.2), (cell_apart (cell_apart hHeld.2.2.2.2.2.2.1 HPK.out.2) HPK.out.2), (cell_apart (cell_apart hHeld.2.2.2.2.2.2.2.1 HPK.out.2) HPK.out.2), (cell_apart (cell_apart hHeld.2.2.2.2.2.2.2.2 HPK.out.2) HPK.out.2)⟩) (fun hHeld => ?_)
      clear hK K z0 z1 y0 y1
      refine tk 13 rfl _ ?_
      refine wpAnyH_done (by kernel_rfl) ?_ _
      clear hHeld d0 d1 d2 d3 d4 d5 d6 d7 u0
      go_wp2_with (at_builtin; go_loud (refine wpList_plain rfl fun K hK => op_append_told (B := w12.heap.size) _ _ rfl _ out (by rfl) T4.out _ ql (by rfl) U4.out HQK.out HC4.out (by have h5 := HOL.out; have h6 := HQL.out; have h7 := HWT.out; omega) K4.out.size ?_); intro v6 w6 t6 gr6; refine hK _ _ ?_; refine Hid.out ?_)
      refine aside ?_
      obtain ⟨n9, xs9, o9, g9⟩ := gr6
      have T6 := aside t6
      have S6 := aside (S4.out.grownP o9 g9)
      have L6 := aside (L4.out.grownP HW0.out o9 g9)
      have H6 := aside (blk_grownP o9 g9 H4.out (by decide))
      have G6 := aside (blk_grownP o9 g9 G4.out (by decide))
      have K6 := aside (keeps_grownP K4.out o9 (Nat.le_refl _) g9)
      clear t6 o9 g9 T4 U4 S4 L4 H4 K4 G4
      have hn1 : IntKind.i64.wrap ((n : Int) + (n7 : Int)) = (((n + n7 : Nat)) : Int) := by rw [IntKind.wrap_i64]; have h5 := HNF.out; have h6 := HNX1.out; have h7 := HEJ.out; omega
      have hf1 : IntKind.i64.wrap ((f : Int) + (f7 : Int)) = (((f + f7 : Nat)) : Int) := by rw [IntKind.wrap_i64]; have h5 := HNF.out; have h6 := HNX1.out; have h7 := HEJ.out; omega
      obtain ⟨z0, z1⟩ := two_h H6.out
      obtain ⟨x0, x1⟩ := two_h G6.out
      have y0 := frozen_of_row _ _ 0 _ _ H6.out
      have y1 := frozen_of_row _ _ 1 _ _ H6.out
      have KF := aside (((Keeps.refl (fun x => x = gb) w6).setCell (p := ⟨gb, 0, none⟩) (fun _ => rfl) (.int .i64 ((n + n7 : Nat) : Int))).setCell (p := ⟨gb, 1, none⟩) (fun _ => rfl) (.int .i64 ((f + f7 : Nat) : Int)))
      have SF := aside (S6.out.set H6.out (by decide) (by decide) (by decide) (by decide) KF.out)
      have LF := aside (L6.out.keeps KF.out (fun (e : 0 = gb) => by have h8 := HGB2.out; omega))
      have TF := aside (T6.out.other H6.out (by decide) (by decide) KF.out)
      have KW := aside ((K6.out.setCell (p := ⟨gb, 0, none⟩) (fun hh => absurd hh (by have h8 := HGB2.out; simp; omega)) (.int .i64 ((n + n7 : Nat) : Int))).setCell (p := ⟨gb, 1, none⟩) (fun hh => absurd hh (by have h8 := HGB2.out; simp; omega)) (.int .i64 ((f + f7 : Nat) : Int)))
      have KR := set_in 1 (.int .i64 ((f + f7 : Nat) : Int)) (set_in 0 (.int .i64 ((n + n7 : Nat) : Int)) H6.out)
      simp only [List.setIfInBounds_toArray, List.set_cons_zero, List.set_cons_succ] at KR
      have HKR := aside KR
      have hne : kb ≠ gb := HKB.out.2.1
      have hne2 : gb ≠ kb := HKB.out.2.2
      clear KR KF T6 S6 L6 K6
      go_wp2
      go_roundw
      case rel => exact ⟨j + 1, by go_num, by omega, by rw [HNX0.out]; exact TF, by rw [HNX0.out]; exact SF, by rw [HNX0.out]; exact HKR, KW, LF⟩
      case measure => simp [intOf]; omega
    ·obtain rfl : j = pl := by omega
     obtain ⟨rfl, rfl, rfl, rfl, rfl⟩ : lX = Lj ∧ cX = cj ∧ nX = n ∧ fX = f ∧ oX = out := by
      have h9 := HAX0.out.trans HSJ.out
      simp only [AlS.mk.injEq, TkS.mk.injEq] at h9
      exact ⟨h9.1.1, h9.1.2.1, h9.1.2.2.1, h9.1.2.2.2, h9.2⟩
     have QF := aside (show Pair2 wr D0 sa ga ta da 1 cX lX from ⟨PA.out.code.keep SB2.out HK1.out HAP.out.1 HAP.out.2.1 HAP.out.2.2, PA.out.doc.keeps SB2.out HK1.out, HL1.out, HPA.out.1, HPA.out.2.1, HPA.out.2.2.1, HPA.out.2.2.2⟩)
     have TXF := aside (TX2.out.keepS SB2.out HK1.out)
     have KAF := aside (blk_keep KA2.out HK1.out (SB2.out.not KA2.out (by decide) (by decide) (by decide)))
     have KBF := aside (blk_keep KB2.out HK1.out (SB2.out.not KB2.out (by decide) (by decide) (by decide)))
     have KHF := aside (blk_keep KH2.out HK1.out (SB2.out.not KH2.out (by decide) (by decide) (by decide)))
     have BF := aside (BB.out.trans (HK1.out.below BB.out.size (fun k hk => by have := HGB.out; unfold Of; omega)))
     obtain ⟨x0, x1⟩ := two_h KHF.out
     obtain ⟨z0, z1⟩ := two_h HH1.out
     obtain ⟨u0, u1⟩ := two_cells KAF.out
     obtain ⟨e0, -⟩ := two_cells KBF.out
     have SQ : ∀ W, (binOp .eql 33 (.agg #[.int .i64 (nX : Int), .int .i64 (fX : Int)]) (.agg #[.int .i64 (nX : Int), .int .i64 (fX : Int)])).run Tryz.prog W = .ok (.bool true) W := fun W => by rw [heard_run]; simp
     have DB := (Below.refl wr.heap.size wr).drew
     have C1 := aside (Told.same (TXF.out.below DB) (HT1.out.below DB) HOKK.out)
     have QF1 := aside (QF.out.below DB)
     have SBF := aside (HS1.out.below DB)
     have BF1 := aside (BF.out.drew)
     clear TXF HT1 QF HS1 KAF KBF KHF HH1 HK1 HL1 DB BF
     go_wp2_with fail
     refine wp_region_held_drew (S := fun W => W.cell? ⟨hx, 0, none⟩ = some (.int .i64 (nX : Int)) ∧ W.cell? ⟨hx, 1, none⟩ = some (.int .i64 (fX : Int)) ∧ W.cell? ⟨gb, 0, none⟩ = some (.int .i64 (nX : Int)) ∧ W.cell? ⟨gb, 1, none⟩ = some (.int .i64 (fX : Int)) ∧ W.cell? ⟨pA, 0, none⟩ = some (.pointer (some ⟨sa, 0, none⟩)) ∧ W.cell? ⟨pA, 1, none⟩ = some (.pointer (some ⟨da, 0, none⟩)) ∧ W.cell? ⟨pB, 0, none⟩ = some (.pointer (some ⟨sb, 0, none⟩))) (by kernel_rfl) ⟨x0, x1, z0, z1, u0, u1, e0⟩ (fun hHeld => ?_)
     refine tk 0 rfl _ ?_; refine tk 1 rfl _ ?_; refine tk 2 rfl _ ?_; refine tk 3 rfl _ ?_; refine tk 4 rfl _ ?_; refine tk 5 rfl _ ?_
     clear x0 x1 z0 z1 u0 u1 e0
     refine rd 6 rfl fun K hK => ?_
     go_simp
     refine (C1.out).mono ?_
     rintro e w20 ⟨rfl, b20⟩
     refine hK.out _ _ (⟨cell_in hHeld.1 b20, cell_in hHeld.2.1 b20, cell_in hHeld.2.2.1 b20, cell_in hHeld.2.2.2.1 b20, cell_in hHeld.2.2.2.2.1 b20, cell_in hHeld.2.2.2.2.2.1 b20, cell_in hHeld.2.2.2.2.2.2 b20⟩) (fun hHeld => ?_)
     clear hK K 
     have QF2 := aside (QF1.out.below b20)
     have SB20 := aside (SBF.out.below b20)
     have B20 := aside (bthen BF1.out b20)
     clear C1 QF1 SBF BF1 b20
     have C2 := aside (held13_any QF2.out.code HOKX.out.2)
     refine tk 7 rfl _ ?_; refine tk 8 rfl _ ?_; refine tk 9 rfl _ ?_; refine tk 10 rfl _ ?_; refine tk 12 rfl _ ?_; refine tk 13 rfl _ ?_
     refine rd 11 rfl fun K hK => ?_
     go_simp
     refine (C2.out).mono ?_
     rintro e w21 ⟨v21, rfl, o21, b21⟩
     refine hK.out _ _ (⟨cell_in hHeld.1 b21, cell_in hHeld.2.1 b21, cell_in hHeld.2.2.1 b21, cell_in hHeld.2.2.2.1 b21, cell_in hHeld.2.2.2.2.1 b21, cell_in hHeld.2.2.2.2.2.1 b21, cell_in hHeld.2.2.2.2.2.2 b21⟩) (fun hHeld => ?_)
     clear hK K 
     have QF3 := aside (QF2.out.below b21)
     have SB21 := aside (SB20.out.below b21)
     have B21 := aside (bthen B20.out b21)
     have O21 := aside o21
     clear C2 QF2 SB20 B20 b21 o21
     have C3 := aside (held13_any SB21.out HOKX.out.2)
     refine rd 14 rfl fun K hK => ?_
     go_simp
     refine (C3.out).mono ?_
     rintro e w22 ⟨v22, rfl, o22, b22⟩
     refine hK.out _ _ (⟨cell_in hHeld.1 b22, cell_in hHeld.2.1 b22, cell_in hHeld.2.2.1 b22, cell_in hHeld.2.2.2.1 b22, cell_in hHeld.2.2.2.2.1 b22, cell_in hHeld.2.2.2.2.2.1 b22, cell_in hHeld.2.2.2.2.2.2 b22⟩) (fun hHeld => ?_)
     clear hK K 
     have hKX : KeysOk lX := fun e he => key_small (HOKX.out.1.chk e he)
     obtain ⟨a21, c21, rfl, e21⟩ := own_ents (own_on O21.out b22) hKX
     obtain ⟨a22, c22, rfl, e22⟩ := own_ents o22 hKX
     have QF4 := aside (QF3.out.below b22)
     have B22 := aside (bthen B21.out b22)
     have C4 := aside (same13_yes a21 lX.length c21 (nthE lX) a22 lX.length c22 (nthE lX) w22 e21 e22 rfl)
     clear C3 QF3 SB21 B21 b22 o22 O21 e21 e22 hKX
     refine rd 15 rfl fun K hK => ?_
     go_simp
     refine (C4.out).mono ?_
     rintro e w23 ⟨rfl, b23⟩
     refine hK.out _ _ (⟨cell_in hHeld.1 b23, cell_in hHeld.2.1 b23, cell_in hHeld.2.2.1 b23, cell_in hHeld.2.2.2.1 b23, cell_in hHeld.2.2.2.2.1 b23, cell_in hHeld.2.2.2.2.2.1 b23, cell_in hHeld.2.2.2.2.2.2 b23⟩) (fun hHeld => ?_)
     clear hK K 
     have QF5 := aside (QF4.out.below b23)
     have B23 := aside (bthen B22.out b23)
     clear C4 QF4 B22 b23
     have C5 := aside (still13_any QF5.out HOKX.out.1 HOKX.out.2)
     refine tk 16 rfl _ ?_; refine tk 17 rfl _ ?_; refine tk 18 rfl _ ?_
     refine rd 19 rfl fun K hK => ?_
     go_simp
     refine (C5.out).mono ?_
     rintro e w24 ⟨rfl, b24⟩
     refine hK.out _ _ (⟨cell_in hHeld.1 b24, cell_in hHeld.2.1 b24, cell_in hHeld.2.2.1 b24, cell_in hHeld.2.2.2.1 b24, cell_in hHeld.2.2.2.2.1 b24, cell_in hHeld.2.2.2.2.2.1 b24, cell_in hHeld.2.2.2.2.2.2 b24⟩) (fun hHeld => ?_)
     clear hK K 
     have B24 := aside (bthen B23.out b24)
     clear C5 QF5 B23 b24
     refine tk 20 rfl _ ?_; refine tk 21 rfl _ ?_
     refine wpAnyH_done (by kernel_rfl) ?_ _
     clear hHeld
     go_wp2
     go_ret
     exact ⟨rfl, B24.out⟩
end Go.Proofs.YtpbkjffiohfkcaaGreatDoor

/-
  All of the document.
-/
import Derived.Test.YtpbkjffiohfkcaaGreatDoorBs1
import Derived.Test.YtpbkjffiohfkcaaGreatDoorBs46
namespace Go.Proofs.YtpbkjffiohfkcaaGreatDoor
open Go.RowKit
set_option linter.unusedVariables false
theorem ptN_at {P : Nat → Pm} : ∀ {n : Nat}, ptN P n = 0 → ∀ i, i < n → ptAt P i = 0
 | 0, _, i, hi => by omega
 | n + 1, h, i, hi => by
  have h' : (if ptN P n ≠ 0 then ptN P n else ptAt P n) = 0 := h
  by_cases h0 : ptN P n = 0
  ·rw [if_neg (by simp [h0])] at h'
   by_cases e : i = n
   ·subst e; exact h'
   ·exact ptN_at h0 i (by omega)
  ·rw [if_pos h0] at h'; exact absurd h' h0
theorem chk_alone {p : Pm} {hi : ByteArray} {op : Bool} (h : p.chk hi op = 0) : p.chk ⟨#[]⟩ false = 0 := by
 unfold Pm.chk at h ⊢
 by_cases h1 : p.alone = false
 ·rw [if_pos h1] at h; cases h
 ·rw [if_neg h1] at h ⊢
  by_cases h2 : p.rg.chk = 0
  ·rw [if_neg (by simp [h2])] at h ⊢
   by_cases h3 : p.rg.emp = true ∨ op = true ∨ kLt p.lo hi = true
   ·rw [if_pos h3] at h; cases h
   ·rw [if_neg h3] at h
    rw [if_neg (by rintro (h4 | h4 | h4); exact h3 (.inl h4); cases h4; rw [kLt_none] at h4; cases h4)]
    exact h
  ·rw [if_pos h2] at h; exact absurd h h2
theorem single_ok {P : Nat → Pm} {n i : Nat} (h : psChk P n = 0) (hi : i < n) : psChk (fun _ => P i) 1 = 0 := by
 obtain ⟨-, g2, -⟩ := goods h
 unfold psChk at h
 by_cases g : 768 < n ∨ 256 < totE P n
 ·rw [if_pos g] at h; cases h
 ·rw [if_neg g] at h
  have h1 := chk_alone (show (P i).chk (ahHi P i) (ahOp P i) = 0 from ptN_at h i hi)
  unfold psChk
  have h2 := el_totE P hi
  rw [if_neg (by simp only [totE]; omega), ptN_one]
  exact h1
theorem single_c {b lf : Int} {P : Nat → Pm} {n i : Nat} (hI : inB b lf = true) (h : psChk P n = 0) (hi : i < n) (hk : (P i).kind = 1) : cErr b lf (P i) = 0 := by
 unfold cErr
 rw [if_neg (by rw [hI]; simp), if_neg (by rw [single_ok h hi]; simp), if_pos hk]
theorem single_x {P : Nat → Pm} {n i : Nat} (h : psChk P n = 0) (hi : i < n) (hk : ¬ (P i).kind = 1) : xErr (P i) = 0 := by
 unfold xErr
 rw [if_neg (by rw [single_ok h hi]; simp), if_neg hk]
theorem DSt.grownP {w w' : World} {D db : Nat} {nd ck : Int} {l : List En} (h : DSt w D db nd ck l) {B n : Nat} {v : Value} {xs : List Value} (o : w.ownsRow B 47 8 v n xs) (hg : w.grownBy w' v.ownBlock) : DSt w' D db nd ck l := by
 rcases grown_row o hg with b | ⟨g2, cs, -, h2, k⟩
 ·exact h.below b
 ·exact h.set2 h2 (by decide) (by decide) k
set_option maxHeartbeats 12800000 in
set_option maxRecDepth 100000 in
theorem rall13_any (b lf : Int) (a : Option Addr) (len cap : Nat) (P : Nat → Pm) {w : World} {D db : Nat} {nd ck : Int} {l : List En} (h : DSt w D db nd ck l) (hm : MapL l) (hl : l.length ≤ 256) (hD : D ≤ w.heap.size) (hP : PartsIn w a len cap P) :
    Calls Tryz.prog 12 #[.pointer (some ⟨db, 0, none⟩), .int .i64 b, .int .i64 lf, .slice a len cap] w fun r w' => ∃ v, r = .returned (.tuple #[v, .agg #[.int .i64 ((alX b lf l ck P len).s.n : Int), .int .i64 ((alX b lf l ck P len).s.f : Int)], .int .i64 (aErr b lf P len)]) ∧ Told w.heap.size v (alX b lf l ck P len).out w' ∧ DSt w' D db nd (alX b lf l ck P len).s.c (alX b lf l ck P len).s.l ∧ Keeps (fun x => x = db) w w' := by
 have BX := aside (bthen (bnew w (.cells #[.int .i64 0, .int .i64 0] 33)) (bnew _ (.cells #[.int .i64 0, .int .i64 0] 33)))
 have KX := aside (blk_on (heap_alloc_new w (.cells #[.int .i64 0, .int .i64 0] 33)) (bnew _ (.cells #[.int .i64 0, .int .i64 0] 33)))
 have KH := aside (heap_alloc_new (w.alloc (.cells #[.int .i64 0, .int .i64 0] 33)) (.cells #[.int .i64 0, .int .i64 0] 33))
 rw [World.size_alloc] at KH
 obtain ⟨rb, hrb⟩ : ∃ rb, w.heap.size = rb := ⟨_, rfl⟩
 have HRB := aside hrb
 rw [hrb] at KX KH
 obtain ⟨hb, hhb⟩ : ∃ hb, rb + 1 = hb := ⟨_, rfl⟩
 rw [hhb] at KH
 have HNL := aside (show w.heap.size ≤ rb ∧ w.heap.size ≤ hb from by omega)
 have HNE := aside (show hb ≠ rb from by omega)
 have CI := aside (fun W => inbR_any b lf W)
 have CK := aside (fun (W : World) (bb : Below w.heap.size w W) => partsR_any a len cap P W (hP.keep bb))
 have H := aside h
 have HM := aside hm
 have HL := aside hl
 have HDD := aside hD
 have HPI := aside hP
 have hlc := hP.1
 obtain ⟨q, hq⟩ : ∃ q, psChk P len = q := ⟨_, rfl⟩
 have HPS := aside hq
 have HAE := aside (show aErr b lf P len = if inB b lf = false then 1 else q from by unfold aErr; rw [hq])
 rw [hq] at CK
 clear h hm hl hP hq hD
 cases hI : inB b lf
 ·rw [hI] at CI
  have HE := aside (show aErr b lf P len = 1 from by rw [HAE.out, if_pos hI])
  have HX := aside (alX_no (Ls := l) (ck := ck) (show aErr b lf P len ≠ 0 from by rw [HE.out]; decide))
  clear hI HAE
  go_enter Tryz.func12, Tryz.ntmps12
  go_wp2_with fail
  refine (CI.out _).mono ?_
  rintro e w1 ⟨rfl, b1⟩
  have B1 := aside (bthen BX.out b1)
  have K1 := aside (blk_on KX.out b1)
  have G1 := aside (blk_on KH.out b1)
  clear b1 CI BX KX KH
  have DA := aside ((H.out.below B1.out).below (Below.refl _ w1).drew)
  have TA := aside (Told.zero w.heap.size w1.drew)
  have KA := aside ((Keeps.of_below B1.out (fun x => x = db)).drew)
  have KZ2 := aside (blk_on K1.out (Below.refl _ w1).drew)
  obtain ⟨x0, x1⟩ := two_h G1.out
  go_wp2_with fail
  refine wp_region_held_drew (S := fun W => W.cell? ⟨hb, 0, none⟩ = some (.int .i64 0) ∧ W.cell? ⟨hb, 1, none⟩ = some (.int .i64 0)) (by kernel_rfl) ⟨x0, x1⟩ (fun hHeld => ?_)
  refine tk 0 rfl _ ?_; refine tk 1 rfl _ ?_
  clear x0 x1
  generalize World.drew _ = Y at *
  obtain ⟨z0, z1⟩ := two_h KZ2.out
  have y0 := frozen_of_row _ _ 0 _ _ KZ2.out
  have y1 := frozen_of_row _ _ 1 _ _ KZ2.out
  have KF := aside (((Keeps.refl (fun x => x = rb) Y).setCell (p := ⟨rb, 0, none⟩) (fun _ => rfl) (.int .i64 0)).setCell (p := ⟨rb, 1, none⟩) (fun _ => rfl) (.int .i64 0))
  have DF := aside (DA.out.set2 KZ2.out (by decide) (by decide) KF.out)
  have TF := aside (TA.out.other KZ2.out (by decide) (by decide) KF.out)
  have KW := aside ((KA.out.setCell (p := ⟨rb, 0, none⟩) (fun hh => absurd hh (by have := HNL.out; simp; omega)) (.int .i64 0)).setCell (p := ⟨rb, 1, none⟩) (fun hh => absurd hh (by have := HNL.out; simp; omega)) (.int .i64 0))
  have KR := set_in 1 (.int .i64 0) (set_in 0 (.int .i64 0) KZ2.out)
  simp only [List.setIfInBounds_toArray, List.set_cons_zero, List.set_cons_succ] at KR
  have HKR := aside KR
  clear KR KF
  refine rd 2 rfl fun K hK => ?_
  go_simp
  refine hK.out _ _ (⟨cell_apart (cell_apart hHeld.1 HNE.out) HNE.out, cell_apart (cell_apart hHeld.2 HNE.out) HNE.out⟩) (fun hHeld => ?_)
  clear hK K z0 z1 y0 y1
  refine tk 3 rfl _ ?_
  refine wpAnyH_done (by kernel_rfl) ?_ _
  go_wp2
  obtain ⟨r0, r1⟩ := two_h HKR.out
  exact bodyPost_ret (v := .tuple #[.slice none 0 0, .agg #[.int .i64 0, .int .i64 0], .int .i64 1]) (by simp [results, Tryz.results12, go_sem, r0, r1]) rfl ⟨_, by rw [HE.out, HX.out] <;> rfl, by rw [HX.out]; exact TF.out, by rw [HX.out]; exact DF.out, KW.out⟩
 ·rw [hI] at CI
  have HAE2 := aside (show aErr b lf P len = q from by rw [HAE.out, if_neg (by rw [hI]; simp)])
  have HI := aside hI
  clear hI HAE
  go_enter Tryz.func12, Tryz.ntmps12
  go_wp2_with fail
  refine (CI.out _).mono ?_
  rintro e w1 ⟨rfl, b1⟩
  have B1 := aside (bthen BX.out b1)
  have K1 := aside (blk_on KX.out b1)
  have G1 := aside (blk_on KH.out b1)
  clear b1 CI BX KX KH
  go_wp2_with fail
  refine (CK.out _ B1.out).mono ?_
  rintro e w2 ⟨rfl, b2⟩
  have B2 := aside (bthen B1.out b2)
  have K2 := aside (blk_on K1.out b2)
  have G2 := aside (blk_on G1.out b2)
  clear b2 CK B1 K1 G1
  by_cases hq0 : q = 0
  rotate_left
  ·have hqb : (q == 0) = false := by simpa using hq0
   have HX := aside (alX_no (Ls := l) (ck := ck) (show aErr b lf P len ≠ 0 from by rw [HAE2.out]; exact hq0))
   have HE := aside HAE2.out
   have DA := aside ((H.out.below B2.out).below (Below.refl _ w2).drew)
   have TA := aside (Told.zero w.heap.size w2.drew)
   have KA := aside ((Keeps.of_below B2.out (fun x => x = db)).drew)
   have KZ2 := aside (blk_on K2.out (Below.refl _ w2).drew)
   obtain ⟨x0, x1⟩ := two_h G2.out
   go_wp2_with fail
   refine wp_region_held_drew (S := fun W => W.cell? ⟨hb, 0, none⟩ = some (.int .i64 0) ∧ W.cell? ⟨hb, 1, none⟩ = some (.int .i64 0)) (by kernel_rfl) ⟨x0, x1⟩ (fun hHeld => ?_)
   refine tk 0 rfl _ ?_; refine tk 1 rfl _ ?_; refine tk 2 rfl _ ?_
   clear x0 x1
   generalize World.drew _ = Y at *
   obtain ⟨z0, z1⟩ := two_h KZ2.out
   have y0 := frozen_of_row _ _ 0 _ _ KZ2.out
   have y1 := frozen_of_row _ _ 1 _ _ KZ2.out
   have KF := aside (((Keeps.refl (fun x => x = rb) Y).setCell (p := ⟨rb, 0, none⟩) (fun _ => rfl) (.int .i64 0)).setCell (p := ⟨rb, 1, none⟩) (fun _ => rfl) (.int .i64 0))
   have DF := aside (DA.out.set2 KZ2.out (by decide) (by decide) KF.out)
   have TF := aside (TA.out.other KZ2.out (by decide) (by decide) KF.out)
   have KW := aside ((KA.out.setCell (p := ⟨rb, 0, none⟩) (fun hh => absurd hh (by have := HNL.out; simp; omega)) (.int .i64 0)).setCell (p := ⟨rb, 1, none⟩) (fun hh => absurd hh (by have := HNL.out; simp; omega)) (.int .i64 0))
   have KR := set_in 1 (.int .i64 0) (set_in 0 (.int .i64 0) KZ2.out)
   simp only [List.setIfInBounds_toArray, List.set_cons_zero, List.set_cons_succ] at KR
   have HKR := aside KR
   clear KR KF
   refine rd 3 rfl fun K hK => ?_
   go_simp
   refine hK.out _ _ (⟨cell_apart (cell_apart hHeld.1 HNE.out) HNE.out, cell_apart (cell_apart hHeld.2 HNE.out) HNE.out⟩) (fun hHeld => ?_)
   clear hK K z0 z1 y0 y1
   refine tk 4 rfl _ ?_
   refine wpAnyH_done (by kernel_rfl) ?_ _
   go_wp2
   obtain ⟨r0, r1⟩ := two_h HKR.out
   exact bodyPost_ret (v := .tuple #[.slice none 0 0, .agg #[.int .i64 0, .int .i64 0], .int .i64 q]) (by simp [results, Tryz.results12, go_sem, r0, r1]) rfl ⟨_, by rw [HE.out, HX.out] <;> rfl, by rw [HX.out]; exact TF.out, by rw [HX.out]; exact DF.out, KW.out⟩
  subst hq0
  have HX := aside (alX_yes (Ls := l) (ck := ck) HAE2.out)
  obtain ⟨-, -, g768, gTot, gAll⟩ := aErr_ok HAE2.out
  have HG1 := aside g768
  have HG2 := aside gTot
  have HG3 := aside gAll
  have HOK := aside (fun j => alN_ok (b := b) (lf := lf) (a := ⟨⟨l, ck, 0, 0⟩, []⟩) (P := P) ⟨HM.out, HL.out⟩ j)
  have HLEN := aside (fun j => alN_len (b := b) (lf := lf) (a := ⟨⟨l, ck, 0, 0⟩, []⟩) (P := P) HI.out rfl j)
  have HNUM := aside (fun j => alN_num (b := b) (lf := lf) (a := ⟨⟨l, ck, 0, 0⟩, []⟩) (P := P) j)
  have HST := aside (fun j => show alN b lf ⟨⟨l, ck, 0, 0⟩, []⟩ P (j + 1) = alStep b lf (alN b lf ⟨⟨l, ck, 0, 0⟩, []⟩ P j) (P j) from rfl)
  have HAE := HAE2
  clear HAE2 g768 gTot gAll
  have NB := bnew w2 (.cells #[] 47)
  have B3 := aside (bthen B2.out NB)
  have K3 := aside (blk_on K2.out NB)
  have G3 := aside (blk_on G2.out NB)
  have T3 := aside (Told.emp (ownP_empty w2 w.heap.size B2.out.size))
  obtain ⟨w3, hw3⟩ : ∃ w3, w2.alloc (.cells #[] 47) = w3 := ⟨_, rfl⟩
  rw [hw3] at B3 K3 G3 T3
  have D3 := aside (H.out.below B3.out)
  have KK3 := aside (Keeps.of_below B3.out (fun x => x = db))
  have hlen : (len : Int) ≤ 768 := by have := HG1.out; omega
  clear NB B2 K2 G2
  go_wp2_with fail
  go_loopw [13, 14] (fun v i wr => ∃ j : Nat, i = .int .i64 (j : Int) ∧ j ≤ len ∧ Hid (Told w.heap.size v (alN b lf ⟨⟨l, ck, 0, 0⟩, []⟩ P j).out wr) ∧ Hid (DSt wr D db nd (alN b lf ⟨⟨l, ck, 0, 0⟩, []⟩ P j).s.c (alN b lf ⟨⟨l, ck, 0, 0⟩, []⟩ P j).s.l) ∧ Hid (wr.heap[hb]? = some (.cells #[.int .i64 ((alN b lf ⟨⟨l, ck, 0, 0⟩, []⟩ P j).s.n : Int), .int .i64 ((alN b lf ⟨⟨l, ck, 0, 0⟩, []⟩ P j).s.f : Int)] 33 (0, 0))) ∧ Hid (wr.heap[rb]? = some (.cells #[.int .i64 0, .int .i64 0] 33 (0, 0))) ∧ Hid (Keeps (fun x => x = db) w wr)) (fun v i _ => len - (intOf i).toNat)
  case atStart => exact ⟨0, rfl, Nat.zero_le _, T3, D3, G3, K3, KK3⟩
  case round =>
   obtain ⟨j, rfl, hj, HT1, HS1, HH1, HR1, HK1⟩ := hrel
   clear T3 D3 G3 K3 KK3
   have h1 := HOK.out j
   have h2 := HLEN.out j
   have h3 := HNUM.out j
   have h4 := HST.out j
   obtain ⟨s, hs⟩ : ∃ s, alN b lf ⟨⟨l, ck, 0, 0⟩, []⟩ P j = s := ⟨_, rfl⟩
   have HSJ := aside hs
   rw [hs] at HT1 HS1 HH1 h1 h2 h3 h4
   obtain ⟨⟨Lj, cj, n, f⟩, out⟩ := s
   dsimp only at HT1 HS1 HH1 h1 h2 h3
   have HMJ := aside h1
   have HOL := aside h2
   have HSP := aside h4
   have HNF := aside (show n ≤ 256 ∧ f ≤ 256 from by have h5 := HG2.out; have h6 := totE_mono P hj; omega)
   clear h1 h2 h3 h4 hs
   obtain ⟨a9, c9, rfl⟩ := HT1.out.slice
   by_cases hlt : (j : Int) < (len : Int)
   ·have hj0 : (0 : Int) ≤ (j : Int) := by omega
    have hjl : j < len := by omega
    have hPI := HPI.out.keepD H.out HK1.out
    rcases hPI.2.2 with h0 | ⟨bp, off, rfl, hbp, hc⟩
    ·omega
    obtain ⟨⟨c0, c1, c2, c3, c4, c5, c6, c7⟩, hin⟩ := hc j hjl
    have HEJ := aside (show (P j).el ≤ 256 from by have h5 := HG2.out; have h6 := el_totE P hjl; omega)
    have HMAP := aside (good_map (HG3.out j hjl))
    have HSC := aside (fun hk => single_c (i := j) HI.out HPS.out hjl hk)
    have HSX := aside (fun hk => single_x (i := j) HPS.out hjl hk)
    obtain ⟨p, hp⟩ : ∃ p, P j = p := ⟨_, rfl⟩
    have HPJ := aside hp
    rw [hp] at c0 c1 c2 c3 c4 c5 c6 c7 hin HEJ HMAP HSP HSC HSX
    have HIN := aside hin
    have HDW := aside (Nat.le_trans HDD.out HK1.out.size)
    have hwr : IntKind.i64.wrap ((j : Int) + 1) = (((j + 1 : Nat)) : Int) := by rw [IntKind.wrap_i64]; omega
    clear hin hc hPI hp
    by_cases hk : p.kind = 1
    ·have hkb : (p.kind == 1) = true := by simpa using hk
     have HNX := aside (show alN b lf ⟨⟨l, ck, 0, 0⟩, []⟩ P (j + 1) = ⟨⟨Lj, cj, n, f⟩, out ++ cmpQ b lf p.rg p.cnt p.s0 p.s1 Lj⟩ from by rw [HSP.out, alStep_print hk])
     have C3 := aside (rcmpU b lf p HS1.out HMJ.out.1 HMJ.out.2 HIN.out)
     rw [cQ_yes (HSC.out hk), HSC.out hk] at C3
     have HQK := aside (cmpQ_keys (b := b) (lf := lf) (r := p.rg) (cnt := p.cnt) (s0 := p.s0) (s1 := p.s1) HMJ.out.1)
     have HQL := aside (cmpQ_len (r := p.rg) (cnt := p.cnt) (s0 := p.s0) (s1 := p.s1) (Ls := Lj) HI.out)
     clear hk
     generalize cmpQ b lf p.rg p.cnt p.s0 p.s1 Lj = ql at *
     go_wp2_with fail
     refine C3.out.mono ?_
     rintro e w4 ⟨v4, rfl, t4, b4⟩
     have T4 := aside (HT1.out.below b4)
     have U4 := aside t4
     have D4 := aside (HS1.out.below b4)
     have H4 := aside (blk_on HH1.out b4)
     have R4 := aside (blk_on HR1.out b4)
     have K4 := aside (HK1.out.trans (Keeps.of_below b4 _))
     have HC4 := aside HK1.out.size
     clear t4 b4 C3 HT1 HS1 HH1 HR1 HK1 c0 c1 c2 c3 c4 c5 c6 c7 hkb
     go_wp2_with (at_builtin; go_loud (refine wpList_plain rfl fun K hK => op_append_told (B := w.heap.size) _ _ rfl _ out (by rfl) T4.out _ ql (by rfl) U4.out HQK.out HC4.out (by have h5 := HOL.out; have h6 := HQL.out; have h7 := HG1.out; omega) K4.out.size ?_); intro v6 w6 t6 gr6; refine hK _ _ ?_; refine Hid.out ?_)
     refine aside ?_
     obtain ⟨n9, xs9, o9, g9⟩ := gr6
     have T6 := aside t6
     have D6 := aside (D4.out.grownP o9 g9)
     have H6 := aside (blk_grownP o9 g9 H4.out (by decide))
     have R6 := aside (blk_grownP o9 g9 R4.out (by decide))
     have K6 := aside (keeps_grownP K4.out o9 (Nat.le_refl _) g9)
     clear t6 o9 g9 T4 U4 D4 H4 R4 K4
     go_wp2
     go_roundw
     case rel => exact ⟨j + 1, by go_num, by omega, by rw [HNX.out]; exact T6, by rw [HNX.out]; exact D6, by rw [HNX.out]; exact H6, R6, K6⟩
     case measure => simp [intOf]; omega
    ·have hkb : (p.kind == 1) = false := by simpa using hk
     have C3 := aside (rxchgU p HS1.out HMJ.out.1 HMJ.out.2 HDW.out HIN.out)
     unfold tkX xQ at C3
     rw [if_pos (HSX.out hk), if_pos (HSX.out hk), HSX.out hk] at C3
     have HNX0 := aside (show alN b lf ⟨⟨l, ck, 0, 0⟩, []⟩ P (j + 1) = _ from by rw [HSP.out, alStep_ents hk])
     have HNX1 := aside (tkAll_n (s := ⟨Lj, cj, 0, 0⟩) p.T p.el)
     have HQK := aside (show ∀ q ∈ rpQ p Lj, KeysOk q.es from fun q hq => by
      have h9 := rp_keys (p := p) HMJ.out.1 HMAP.out
      by_cases h8 : rpL p Lj = []
      ·rw [rpQ_nil h8] at hq; cases hq
      ·rw [rpQ_one h8, List.mem_singleton] at hq; subst hq; exact h9)
     have HQL := aside (rpQ_len p Lj)
     clear hk
     dsimp only at HNX0 HNX1
     obtain ⟨s2, hs2⟩ : ∃ s2, tkAll ⟨Lj, cj, 0, 0⟩ (firstE p.T p.el) = s2 := ⟨_, rfl⟩
     rw [hs2] at C3 HNX0 HNX1
     obtain ⟨L7, c77, n7, f7⟩ := s2
     dsimp only at C3 HNX0 HNX1
     go_wp2_with fail
     refine C3.out.mono ?_
     rintro e w4 ⟨v4, rfl, t4, d4, k4⟩
     have BN := bnew w4 (.cells #[.int .i64 (n7 : Int), .int .i64 (f7 : Int)] 33)
     have T4 := aside ((HT1.out.keepD HS1.out k4).below BN)
     have U4 := aside (t4.below BN)
     have D4 := aside (d4.below BN)
     have H4 := aside (blk_on (blk_keep HH1.out k4 (HS1.out.other HH1.out (by decide))) BN)
     have R4 := aside (blk_on (blk_keep HR1.out k4 (HS1.out.other HR1.out (by decide))) BN)
     have G4 := aside (heap_alloc_new w4 (.cells #[.int .i64 (n7 : Int), .int .i64 (f7 : Int)] 33))
     have K4 := aside ((HK1.out.trans k4).alloc (.cells #[.int .i64 (n7 : Int), .int .i64 (f7 : Int)] 33))
     have HC4 := aside HK1.out.size
     have HLB := aside (show hb < w4.heap.size from by have h8 := lt_of_blk HH1.out; have h9 := k4.size; omega)
     clear d4 k4 t4 BN C3 HT1 HS1 HH1 HR1 HK1 c0 c1 c2 c3 c4 c5 c6 c7 hkb
     generalize rpQ p Lj = ql at *
     obtain ⟨gb, hgb⟩ : ∃ gb, w4.heap.size = gb := ⟨_, rfl⟩
     rw [hgb] at G4 HLB
     obtain ⟨Y, hY⟩ : ∃ Y, w4.alloc (.cells #[.int .i64 (n7 : Int), .int .i64 (f7 : Int)] 33) = Y := ⟨_, rfl⟩
     rw [hY] at T4 U4 D4 H4 R4 G4 K4
     go_wp2_with (at_builtin; go_loud (refine wpList_plain rfl fun K hK => op_append_told (B := w.heap.size) _ _ rfl _ out (by rfl) T4.out _ ql (by rfl) U4.out HQK.out HC4.out (by have h5 := HOL.out; have h6 := HQL.out; have h7 := HG1.out; omega) K4.out.size ?_); intro v6 w6 t6 gr6; refine hK _ _ ?_; refine Hid.out ?_)
     refine aside ?_
     obtain ⟨n9, xs9, o9, g9⟩ := gr6
     have T6 := aside t6
     have D6 := aside (D4.out.grownP o9 g9)
     have H6 := aside (blk_grownP o9 g9 H4.out (by decide))
     have R6 := aside (blk_grownP o9 g9 R4.out (by decide))
     have G6 := aside (blk_grownP o9 g9 G4.out (by decide))
     have K6 := aside (keeps_grownP K4.out o9 (Nat.le_refl _) g9)
     clear t6 o9 g9 T4 U4 D4 H4 R4 K4 G4 hY
     have hn1 : IntKind.i64.wrap ((n : Int) + (n7 : Int)) = (((n + n7 : Nat)) : Int) := by rw [IntKind.wrap_i64]; have h5 := HNF.out; have h6 := HNX1.out; have h7 := HEJ.out; omega
     have hf1 : IntKind.i64.wrap ((f : Int) + (f7 : Int)) = (((f + f7 : Nat)) : Int) := by rw [IntKind.wrap_i64]; have h5 := HNF.out; have h6 := HNX1.out; have h7 := HEJ.out; omega
     obtain ⟨z0, z1⟩ := two_h H6.out
     obtain ⟨x0, x1⟩ := two_h G6.out
     have y0 := frozen_of_row _ _ 0 _ _ H6.out
     have y1 := frozen_of_row _ _ 1 _ _ H6.out
     have KF := aside (((Keeps.refl (fun x => x = hb) w6).setCell (p := ⟨hb, 0, none⟩) (fun _ => rfl) (.int .i64 (((n + n7 : Nat)) : Int))).setCell (p := ⟨hb, 1, none⟩) (fun _ => rfl) (.int .i64 (((f + f7 : Nat)) : Int)))
     have DF := aside (D6.out.set2 H6.out (by decide) (by decide) KF.out)
     have TF := aside (T6.out.other H6.out (by decide) (by decide) KF.out)
     have RF := aside (blk_keep R6.out KF.out (fun (e : rb = hb) => HNE.out e.symm))
     have KW := aside ((K6.out.setCell (p := ⟨hb, 0, none⟩) (fun hh => absurd hh (by have h8 := HNL.out; simp; omega)) (.int .i64 (((n + n7 : Nat)) : Int))).setCell (p := ⟨hb, 1, none⟩) (fun hh => absurd hh (by have h8 := HNL.out; simp; omega)) (.int .i64 (((f + f7 : Nat)) : Int)))
     have KR := set_in 1 (.int .i64 (((f + f7 : Nat)) : Int)) (set_in 0 (.int .i64 (((n + n7 : Nat)) : Int)) H6.out)
     simp only [List.setIfInBounds_toArray, List.set_cons_zero, List.set_cons_succ] at KR
     have HKR := aside KR
     have hne : gb ≠ hb := by have := HLB.out; omega
     have hne2 : hb ≠ gb := fun e => hne e.symm
     clear KR KF T6 D6 R6 K6
     go_wp2
     go_roundw
     case rel => exact ⟨j + 1, by go_num, by omega, by rw [HNX0.out]; exact TF, by rw [HNX0.out]; exact DF, by rw [HNX0.out]; exact HKR, RF, KW⟩
     case measure => simp [intOf]; omega
   ·obtain rfl : j = len := by omega
    have DA := aside (HS1.out.below (Below.refl _ wr).drew)
    have TA := aside (HT1.out.below (Below.refl _ wr).drew)
    have KA := aside HK1.out.drew
    have KZ2 := aside (blk_on HR1.out (Below.refl _ wr).drew)
    obtain ⟨x0, x1⟩ := two_h HH1.out
    clear HS1 HT1 HK1 HR1 HH1
    go_wp2_with fail
    refine wp_region_held_drew (S := fun W => W.cell? ⟨hb, 0, none⟩ = some (.int .i64 (n : Int)) ∧ W.cell? ⟨hb, 1, none⟩ = some (.int .i64 (f : Int))) (by kernel_rfl) ⟨x0, x1⟩ (fun hHeld => ?_)
    refine tk 0 rfl _ ?_; refine tk 1 rfl _ ?_; refine tk 2 rfl _ ?_
    clear x0 x1
    generalize World.drew _ = Y at *
    obtain ⟨z0, z1⟩ := two_h KZ2.out
    have y0 := frozen_of_row _ _ 0 _ _ KZ2.out
    have y1 := frozen_of_row _ _ 1 _ _ KZ2.out
    have KF := aside (((Keeps.refl (fun x => x = rb) Y).setCell (p := ⟨rb, 0, none⟩) (fun _ => rfl) (.int .i64 (n : Int))).setCell (p := ⟨rb, 1, none⟩) (fun _ => rfl) (.int .i64 (f : Int)))
    have DF := aside (DA.out.set2 KZ2.out (by decide) (by decide) KF.out)
    have TF := aside (TA.out.other KZ2.out (by decide) (by decide) KF.out)
    have KW := aside ((KA.out.setCell (p := ⟨rb, 0, none⟩) (fun hh => absurd hh (by have := HNL.out; simp; omega)) (.int .i64 (n : Int))).setCell (p := ⟨rb, 1, none⟩) (fun hh => absurd hh (by have := HNL.out; simp; omega)) (.int .i64 (f : Int)))
    have KR := set_in 1 (.int .i64 (f : Int)) (set_in 0 (.int .i64 (n : Int)) KZ2.out)
    simp only [List.setIfInBounds_toArray, List.set_cons_zero, List.set_cons_succ] at KR
    have HKR := aside KR
    clear KR KF
    refine rd 3 rfl fun K hK => ?_
    go_simp
    refine hK.out _ _ (⟨cell_apart (cell_apart hHeld.1 HNE.out) HNE.out, cell_apart (cell_apart hHeld.2 HNE.out) HNE.out⟩) (fun hHeld => ?_)
    clear hK K z0 z1 y0 y1
    refine tk 4 rfl _ ?_
    refine wpAnyH_done (by kernel_rfl) ?_ _
    go_wp2
    obtain ⟨r0, r1⟩ := two_h HKR.out
    exact bodyPost_ret (v := .tuple #[.slice a9 out.length c9, .agg #[.int .i64 (n : Int), .int .i64 (f : Int)], .int .i64 0]) (by simp [results, Tryz.results12, go_sem, r0, r1]) rfl ⟨_, by rw [HAE.out, HX.out, HSJ.out] <;> rfl, by rw [HX.out, HSJ.out]; exact TF.out, by rw [HX.out, HSJ.out]; exact DF.out, KW.out⟩
end Go.Proofs.YtpbkjffiohfkcaaGreatDoor

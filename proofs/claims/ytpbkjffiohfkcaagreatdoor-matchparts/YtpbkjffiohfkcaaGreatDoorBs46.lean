/-
  All of the code.
-/
import Derived.Test.YtpbkjffiohfkcaaGreatDoorBs1
import Derived.Test.YtpbkjffiohfkcaaGreatDoorBs40
import Derived.Test.YtpbkjffiohfkcaaGreatDoorBs45
import Derived.Test.YtpbkjffiohfkcaaGreatDoorBs44
import Derived.Deep.Cut
import Derived.Scope
namespace Go.Proofs.YtpbkjffiohfkcaaGreatDoor
open Go.RowKit
set_option linter.unusedVariables false
theorem noGoto_ret {Q : Exit → Act → World → Prop} {a : Act} {w : World} (h : Q .ret a w) : Exit.noGoto Q .ret a w := h
theorem Told.slice {B : Nat} {v : Value} {l : List Pq} {w : World} (h : Told B v l w) : ∃ a c, v = .slice a l.length c := by
 obtain ⟨ms, g1, g2, -⟩ := h
 obtain ⟨a, c, e, -, -, -⟩ := own_slice g1
 exact ⟨a, c, by rw [← g2]; exact e⟩
def aErr (b lf : Int) (P : Nat → Pm) (n : Nat) : Int := if inB b lf = false then 1 else psChk P n
def alX (b lf : Int) (Ls : List En) (ck : Int) (P : Nat → Pm) (n : Nat) : AlS := if aErr b lf P n = 0 then alN b lf ⟨⟨Ls, ck, 0, 0⟩, []⟩ P n else ⟨⟨Ls, ck, 0, 0⟩, []⟩
theorem alX_no {b lf : Int} {Ls : List En} {ck : Int} {P : Nat → Pm} {n : Nat} (h : aErr b lf P n ≠ 0) : alX b lf Ls ck P n = ⟨⟨Ls, ck, 0, 0⟩, []⟩ := by unfold alX; rw [if_neg h]
theorem alX_yes {b lf : Int} {Ls : List En} {ck : Int} {P : Nat → Pm} {n : Nat} (h : aErr b lf P n = 0) : alX b lf Ls ck P n = alN b lf ⟨⟨Ls, ck, 0, 0⟩, []⟩ P n := by unfold alX; rw [if_pos h]
theorem aErr_ok {b lf : Int} {P : Nat → Pm} {n : Nat} (h : aErr b lf P n = 0) : inB b lf = true ∧ psChk P n = 0 ∧ n ≤ 768 ∧ totE P n ≤ 256 ∧ ∀ i, i < n → GoodP P i := by
 unfold aErr at h
 cases hb : inB b lf
 ·rw [if_pos hb] at h; cases h
 ·rw [if_neg (by rw [hb]; simp)] at h
  exact ⟨rfl, h, goods h⟩
theorem PartsIn.keepS {w w' : World} {a : Option Addr} {len cap : Nat} {P : Nat → Pm} {sb g tb : Nat} {nd ck : Int} {Ls : List En} (h : PartsIn w a len cap P) (hs : Sto w sb g tb nd ck Ls) (k : Keeps (Of sb g tb) w w') : PartsIn w' a len cap P := by
 refine ⟨h.1, h.2.1, ?_⟩
 rcases h.2.2 with h0 | ⟨b, off, rfl, hb, hc⟩
 ·exact .inl h0
 ·refine .inr ⟨b, off, rfl, Nat.lt_of_lt_of_le hb k.size, fun i hi => ?_⟩
  obtain ⟨⟨c0, c1, c2, c3, c4, c5, c6, c7⟩, hin⟩ := hc i hi
  have hn := hs.str c1
  exact ⟨⟨(k.cell hb hn).trans c0, (k.cell hb hn).trans c1, (k.cell hb hn).trans c2, (k.cell hb hn).trans c3, (k.cell hb hn).trans c4, (k.cell hb hn).trans c5, (k.cell hb hn).trans c6, (k.cell hb hn).trans c7⟩, EntsIn.keepS hin hs k⟩
theorem PartsIn.keepD {w w' : World} {a : Option Addr} {len cap : Nat} {P : Nat → Pm} {B db : Nat} {nd ck : Int} {l : List En} (h : PartsIn w a len cap P) (hs : DSt w B db nd ck l) (k : Keeps (fun x => x = db) w w') : PartsIn w' a len cap P := by
 refine ⟨h.1, h.2.1, ?_⟩
 rcases h.2.2 with h0 | ⟨b, off, rfl, hb, hc⟩
 ·exact .inl h0
 ·refine .inr ⟨b, off, rfl, Nat.lt_of_lt_of_le hb k.size, fun i hi => ?_⟩
  obtain ⟨⟨c0, c1, c2, c3, c4, c5, c6, c7⟩, hin⟩ := hc i hi
  have hn := hs.str c1
  exact ⟨⟨(k.cell hb hn).trans c0, (k.cell hb hn).trans c1, (k.cell hb hn).trans c2, (k.cell hb hn).trans c3, (k.cell hb hn).trans c4, (k.cell hb hn).trans c5, (k.cell hb hn).trans c6, (k.cell hb hn).trans c7⟩, EntsIn.keepD hin hs k⟩
theorem blk_grownP {w w' : World} {B n : Nat} {v : Value} {xs : List Value} (o : w.ownsRow B 47 8 v n xs) (hg : w.grownBy w' v.ownBlock) {i : Nat} {cs : Array Value} {U : TypeId} (h : w.heap[i]? = some (.cells cs U (0, 0))) (hU : U ≠ 47) : w'.heap[i]? = some (.cells cs U (0, 0)) := by
 rcases grown_row o hg with b | ⟨g2, cs2, h1, h2, k⟩
 ·exact blk_on h b
 ·exact blk_keep h k (fun e => by subst e; rw [h2] at h; simp only [Option.some.injEq, Obj.cells.injEq] at h; exact hU h.2.1.symm)
theorem alN_num {b lf : Int} {a : AlS} {P : Nat → Pm} : ∀ n, (alN b lf a P n).s.n ≤ a.s.n + totE P n ∧ (alN b lf a P n).s.f ≤ a.s.f + totE P n
 | 0 => ⟨Nat.le_add_right _ _, Nat.le_add_right _ _⟩
 | n + 1 => by
  show (alStep b lf (alN b lf a P n) (P n)).s.n ≤ _ ∧ (alStep b lf (alN b lf a P n) (P n)).s.f ≤ _
  have ih := alN_num (b := b) (lf := lf) (a := a) (P := P) n
  have h1 : totE P n + (P n).el ≤ totE P (n + 1) := el_totE P (Nat.lt_succ_self n)
  by_cases hk : (P n).kind = 1
  ·rw [alStep_print hk]; dsimp only; omega
  ·rw [alStep_ents hk]
   have h2 := tkAll_n (s := ⟨(alN b lf a P n).s.l, (alN b lf a P n).s.c, 0, 0⟩) (P n).T (P n).el
   dsimp only at h2 ⊢
   omega
set_option maxHeartbeats 12800000 in
set_option maxRecDepth 100000 in
theorem allC_any (b lf : Int) (a : Option Addr) (len cap : Nat) (P : Nat → Pm) {w : World} {sb g tb : Nat} {nd ck : Int} {Ls : List En} (h : Sto w sb g tb nd ck Ls) (L : Lanes w) (hm : MapL Ls) (hl : Ls.length ≤ 256) (hP : PartsIn w a len cap P) (hz : totE P len ≤ 4611686018427387904) (hlz : len ≤ 4611686018427387904) :
    Calls Tryz.prog 11 #[.pointer (some ⟨sb, 0, none⟩), .int .i64 b, .int .i64 lf, .slice a len cap] w fun r w' => ∃ v, r = .returned (.tuple #[v, .agg #[.int .i64 ((alX b lf Ls ck P len).s.n : Int), .int .i64 ((alX b lf Ls ck P len).s.f : Int)], .int .i64 (aErr b lf P len)]) ∧ Told w.heap.size v (alX b lf Ls ck P len).out w' ∧ Sto w' sb g tb nd (alX b lf Ls ck P len).s.c (alX b lf Ls ck P len).s.l ∧ Keeps (Of sb g tb) w w' ∧ Lanes w' := by
 have BX := aside (bnew w (.cells #[.int .i64 0, .int .i64 0] 33))
 have KX := aside (heap_alloc_new w (.cells #[.int .i64 0, .int .i64 0] 33))
 have HW0 := aside (show 0 < w.heap.size from by have := h.lt; omega)
 obtain ⟨rb, hrb⟩ : ∃ rb, w.heap.size = rb := ⟨_, rfl⟩
 have HRB := aside hrb
 have HNL := aside (show w.heap.size ≤ rb ∧ 0 < rb from by have := HW0.out; omega)
 rw [hrb] at KX
 obtain ⟨X, hX⟩ : ∃ X, w.alloc (.cells #[.int .i64 0, .int .i64 0] 33) = X := ⟨_, rfl⟩
 rw [hX] at BX KX
 have CI := aside (fun W => inb_any b lf W)
 have CK := aside (fun (W : World) (bb : Below w.heap.size w W) => parts_any a len cap P W (hP.keep bb) hz)
 have H := aside h
 have LL := aside L
 have HM := aside hm
 have HL := aside hl
 have HPI := aside hP
 have HZL := aside hlz
 have hlc := hP.1
 obtain ⟨q, hq⟩ : ∃ q, psChk P len = q := ⟨_, rfl⟩
 have HAE := aside (show aErr b lf P len = if inB b lf = false then 1 else q from by unfold aErr; rw [hq])
 rw [hq] at CK
 clear h L hm hl hP hz hq hlz
 cases hI : inB b lf
 ·rw [hI] at CI
  have HE := aside (show aErr b lf P len = 1 from by rw [HAE.out, if_pos hI])
  have HX := aside (alX_no (Ls := Ls) (ck := ck) (show aErr b lf P len ≠ 0 from by rw [HE.out]; decide))
  clear hI HAE
  go_enter Tryz.func11, Tryz.ntmps11
  go_wp2_with fail
  refine wp_scope_straight ?_
  go_wp2_with fail
  refine (CI.out _).mono ?_
  rintro e w1 ⟨rfl, b1⟩
  have B1 := aside (bthen BX.out b1)
  have K1 := aside (blk_on KX.out b1)
  clear b1 CI BX KX hX
  have SA := aside (H.out.below B1.out)
  have LA := aside (LL.out.keep B1.out)
  have TA := aside (Told.zero w.heap.size w1)
  have KA := aside (Keeps.of_below B1.out (Of sb g tb))
  go_upto_region 2 with fail
  obtain ⟨z0, z1⟩ := two_h K1.out
  have y0 := frozen_of_row _ _ 0 _ _ K1.out
  have y1 := frozen_of_row _ _ 1 _ _ K1.out
  have KF := aside (((Keeps.refl (fun x => x = rb) w1).setCell (p := ⟨rb, 0, none⟩) (fun _ => rfl) (.int .i64 0)).setCell (p := ⟨rb, 1, none⟩) (fun _ => rfl) (.int .i64 0))
  have SF := aside (SA.out.set K1.out (by decide) (by decide) (by decide) (by decide) KF.out)
  have LF := aside (LA.out.keeps KF.out (fun (e : 0 = rb) => by have := HW0.out; omega))
  have TF := aside (TA.out.other K1.out (by decide) (by decide) KF.out)
  have KW := aside ((KA.out.setCell (p := ⟨rb, 0, none⟩) (fun hh => absurd hh (by have := HNL.out; simp; omega)) (.int .i64 0)).setCell (p := ⟨rb, 1, none⟩) (fun hh => absurd hh (by have := HNL.out; simp; omega)) (.int .i64 0))
  have KR := set_in 1 (.int .i64 0) (set_in 0 (.int .i64 0) K1.out)
  simp only [List.setIfInBounds_toArray, List.set_cons_zero, List.set_cons_succ] at KR
  have HKR := aside KR
  clear KR KF
  go_wp2
  obtain ⟨r0, r1⟩ := two_h HKR.out
  refine noGoto_ret (Q := bodyPost Tryz.prog Tryz.f11 _) ?_
  exact bodyPost_ret (v := .tuple #[.slice none 0 0, .agg #[.int .i64 0, .int .i64 0], .int .i64 1]) (by simp [results, Tryz.results11, go_sem, r0, r1]) rfl ⟨_, by rw [HE.out, HX.out] <;> rfl, by rw [HX.out]; exact TF.out, by rw [HX.out]; exact SF.out, KW.out, LF.out⟩
 ·rw [hI] at CI
  have HAE2 := aside (show aErr b lf P len = q from by rw [HAE.out, if_neg (by rw [hI]; simp)])
  have HI := aside hI
  clear hI HAE
  go_enter Tryz.func11, Tryz.ntmps11
  go_wp2_with fail
  refine wp_scope_straight ?_
  go_wp2_with fail
  refine (CI.out _).mono ?_
  rintro e w1 ⟨rfl, b1⟩
  have B1 := aside (bthen BX.out b1)
  have K1 := aside (blk_on KX.out b1)
  clear b1 CI BX KX hX
  go_wp2_with fail
  refine (CK.out _ B1.out).mono ?_
  rintro e w2 ⟨rfl, b2⟩
  have B2 := aside (bthen B1.out b2)
  have K2 := aside (blk_on K1.out b2)
  clear b2 CK B1 K1
  by_cases hq0 : q = 0
  rotate_left
  ·have hqb : (q == 0) = false := by simpa using hq0
   have HX := aside (alX_no (Ls := Ls) (ck := ck) (show aErr b lf P len ≠ 0 from by rw [HAE2.out]; exact hq0))
   have HE := aside HAE2.out
   have SA := aside (H.out.below B2.out)
   have LA := aside (LL.out.keep B2.out)
   have TA := aside (Told.zero w.heap.size w2)
   have KA := aside (Keeps.of_below B2.out (Of sb g tb))
   go_upto_region 5 with fail
   obtain ⟨z0, z1⟩ := two_h K2.out
   have y0 := frozen_of_row _ _ 0 _ _ K2.out
   have y1 := frozen_of_row _ _ 1 _ _ K2.out
   have KF := aside (((Keeps.refl (fun x => x = rb) w2).setCell (p := ⟨rb, 0, none⟩) (fun _ => rfl) (.int .i64 0)).setCell (p := ⟨rb, 1, none⟩) (fun _ => rfl) (.int .i64 0))
   have SF := aside (SA.out.set K2.out (by decide) (by decide) (by decide) (by decide) KF.out)
   have LF := aside (LA.out.keeps KF.out (fun (e : 0 = rb) => by have := HW0.out; omega))
   have TF := aside (TA.out.other K2.out (by decide) (by decide) KF.out)
   have KW := aside ((KA.out.setCell (p := ⟨rb, 0, none⟩) (fun hh => absurd hh (by have := HNL.out; simp; omega)) (.int .i64 0)).setCell (p := ⟨rb, 1, none⟩) (fun hh => absurd hh (by have := HNL.out; simp; omega)) (.int .i64 0))
   have KR := set_in 1 (.int .i64 0) (set_in 0 (.int .i64 0) K2.out)
   simp only [List.setIfInBounds_toArray, List.set_cons_zero, List.set_cons_succ] at KR
   have HKR := aside KR
   clear KR KF
   go_wp2
   obtain ⟨r0, r1⟩ := two_h HKR.out
   refine noGoto_ret (Q := bodyPost Tryz.prog Tryz.f11 _) ?_
   exact bodyPost_ret (v := .tuple #[.slice none 0 0, .agg #[.int .i64 0, .int .i64 0], .int .i64 q]) (by simp [results, Tryz.results11, go_sem, r0, r1]) rfl ⟨_, by rw [HE.out, HX.out] <;> rfl, by rw [HX.out]; exact TF.out, by rw [HX.out]; exact SF.out, KW.out, LF.out⟩
  subst hq0
  have HX := aside (alX_yes (Ls := Ls) (ck := ck) HAE2.out)
  obtain ⟨-, -, g768, gTot, gAll⟩ := aErr_ok HAE2.out
  have HG1 := aside g768
  have HG2 := aside gTot
  have HG3 := aside gAll
  have HOK := aside (fun j => alN_ok (b := b) (lf := lf) (a := ⟨⟨Ls, ck, 0, 0⟩, []⟩) (P := P) ⟨HM.out, HL.out⟩ j)
  have HLEN := aside (fun j => alN_len (b := b) (lf := lf) (a := ⟨⟨Ls, ck, 0, 0⟩, []⟩) (P := P) HI.out rfl j)
  have HNUM := aside (fun j => alN_num (b := b) (lf := lf) (a := ⟨⟨Ls, ck, 0, 0⟩, []⟩) (P := P) j)
  have HST := aside (fun j => show alN b lf ⟨⟨Ls, ck, 0, 0⟩, []⟩ P (j + 1) = alStep b lf (alN b lf ⟨⟨Ls, ck, 0, 0⟩, []⟩ P j) (P j) from rfl)
  have HAE := HAE2
  clear HAE2 g768 gTot gAll
  have NB := bnew w2 (.cells #[.int .i64 0, .int .i64 0] 33)
  have B3 := aside (bthen B2.out NB)
  have K3 := aside (blk_on K2.out NB)
  have KH := aside (heap_alloc_new w2 (.cells #[.int .i64 0, .int .i64 0] 33))
  have HLT := aside (show rb < w2.heap.size from lt_of_blk K2.out)
  obtain ⟨hb, hhb⟩ : ∃ hb, w2.heap.size = hb := ⟨_, rfl⟩
  rw [hhb] at KH HLT
  obtain ⟨w3, hw3⟩ : ∃ w3, w2.alloc (.cells #[.int .i64 0, .int .i64 0] 33) = w3 := ⟨_, rfl⟩
  rw [hw3] at B3 K3 KH
  have T3 := aside (Told.zero w.heap.size w3)
  have S3 := aside (H.out.below B3.out)
  have L3 := aside (LL.out.keep B3.out)
  have KK3 := aside (Keeps.of_below B3.out (Of sb g tb))
  have hlen : (len : Int) ≤ 768 := by have := HG1.out; omega
  clear NB B2 K2
  go_wp2_with fail
  refine wp_label ?_
  go_wp2_with fail
  go_loopw [12, 31] (fun v i wr => ∃ j : Nat, i = .int .i64 (j : Int) ∧ j ≤ len ∧ Hid (Told w.heap.size v (alN b lf ⟨⟨Ls, ck, 0, 0⟩, []⟩ P j).out wr) ∧ Hid (Sto wr sb g tb nd (alN b lf ⟨⟨Ls, ck, 0, 0⟩, []⟩ P j).s.c (alN b lf ⟨⟨Ls, ck, 0, 0⟩, []⟩ P j).s.l) ∧ Hid (wr.heap[hb]? = some (.cells #[.int .i64 ((alN b lf ⟨⟨Ls, ck, 0, 0⟩, []⟩ P j).s.n : Int), .int .i64 ((alN b lf ⟨⟨Ls, ck, 0, 0⟩, []⟩ P j).s.f : Int)] 33 (0, 0))) ∧ Hid (wr.heap[rb]? = some (.cells #[.int .i64 0, .int .i64 0] 33 (0, 0))) ∧ Hid (Keeps (Of sb g tb) w wr) ∧ Hid (Lanes wr)) (fun v i _ => len - (intOf i).toNat)
  case atStart => exact ⟨0, rfl, Nat.zero_le _, T3, S3, KH, K3, KK3, L3⟩
  case round =>
   obtain ⟨j, rfl, hj, HT1, HS1, HH1, HR1, HK1, HL1⟩ := hrel
   clear T3 S3 KH K3 KK3 L3
   have h1 := HOK.out j
   have h2 := HLEN.out j
   have h3 := HNUM.out j
   have h4 := HST.out j
   obtain ⟨s, hs⟩ : ∃ s, alN b lf ⟨⟨Ls, ck, 0, 0⟩, []⟩ P j = s := ⟨_, rfl⟩
   have HSJ := aside hs
   rw [hs] at HT1 HS1 HH1 h1 h2 h3 h4
   obtain ⟨⟨Lj, cj, n, f⟩, out⟩ := s
   dsimp only at HT1 HS1 HH1 h1 h2 h3
   have HMJ := aside h1
   have HOL := aside h2
   have HSP := aside h4
   have HNF := aside (show n ≤ 256 ∧ f ≤ 256 from by have h5 := HG2.out; have h6 := totE_mono P hj; omega)
   clear h1 h2 h3 h4 hs
   obtain ⟨a9, c9, rfl⟩ := HT1.out.slice
   by_cases hlt : (j : Int) < (len : Int)
   ·have hj0 : (0 : Int) ≤ (j : Int) := by omega
    have hjl : j < len := by omega
    have hPI := HPI.out.keepS H.out HK1.out
    rcases hPI.2.2 with h0 | ⟨bp, off, rfl, hbp, hc⟩
    ·omega
    obtain ⟨⟨c0, c1, c2, c3, c4, c5, c6, c7⟩, hin⟩ := hc j hjl
    have HGJ := aside (HG3.out j hjl)
    have HEJ := aside (show (P j).el ≤ 256 from by have h5 := HG2.out; have h6 := el_totE P hjl; omega)
    have HMAP := aside (good_map (HG3.out j hjl))
    obtain ⟨p, hp⟩ : ∃ p, P j = p := ⟨_, rfl⟩
    have HCJ := aside (show p.rg.chk = 0 from by rw [← hp]; exact HGJ.out.chk)
    have HPJ := aside hp
    rw [hp] at c0 c1 c2 c3 c4 c5 c6 c7 hin HEJ HMAP HSP
    have NB := bnew wr (.cells #[.int .i64 p.kind, .string p.lo, .string p.hi, .bool p.op, .int .i64 p.cnt, .int .u64 p.s0, .int .u64 p.s1, .slice p.ea p.el p.ec] 47)
    have HIN := aside (hin.keep NB)
    have S2 := aside (HS1.out.below NB)
    have T2 := aside (HT1.out.below NB)
    have H2 := aside (blk_on HH1.out NB)
    have R2 := aside (blk_on HR1.out NB)
    have K2 := aside (HK1.out.alloc (.cells #[.int .i64 p.kind, .string p.lo, .string p.hi, .bool p.op, .int .i64 p.cnt, .int .u64 p.s0, .int .u64 p.s1, .slice p.ea p.el p.ec] 47))
    have L2 := aside (HL1.out.keep NB)
    have KP2 := aside (heap_alloc_new wr (.cells #[.int .i64 p.kind, .string p.lo, .string p.hi, .bool p.op, .int .i64 p.cnt, .int .u64 p.s0, .int .u64 p.s1, .slice p.ea p.el p.ec] 47))
    have hwr : IntKind.i64.wrap ((j : Int) + 1) = (((j + 1 : Nat)) : Int) := by rw [IntKind.wrap_i64]; omega
    clear hin hc NB HT1 HS1 HH1 HR1 HK1 HL1 hPI hp HGJ
    by_cases hk : p.kind = 1
    ·have hkb : (p.kind == 1) = true := by simpa using hk
     have HNX := aside (show alN b lf ⟨⟨Ls, ck, 0, 0⟩, []⟩ P (j + 1) = ⟨⟨Lj, cj, n, f⟩, out ++ cmpQ b lf p.rg p.cnt p.s0 p.s1 Lj⟩ from by rw [HSP.out, alStep_print hk])
     have C3 := aside (cmpC_any b lf p S2.out L2.out HMJ.out.1 HMJ.out.2 HI.out HCJ.out)
     have HQK := aside (cmpQ_keys (b := b) (lf := lf) (r := p.rg) (cnt := p.cnt) (s0 := p.s0) (s1 := p.s1) HMJ.out.1)
     have HQL := aside (cmpQ_len (r := p.rg) (cnt := p.cnt) (s0 := p.s0) (s1 := p.s1) (Ls := Lj) HI.out)
     clear hk
     generalize cmpQ b lf p.rg p.cnt p.s0 p.s1 Lj = ql at *
     go_wp2_with fail
     refine C3.out.mono ?_
     rintro e w4 ⟨v4, rfl, t4, s4, k4, l4⟩
     have T4 := aside (T2.out.keepS S2.out k4)
     have U4 := aside t4
     have S4 := aside s4
     have L4 := aside l4
     have H4 := aside (blk_keep H2.out k4 (S2.out.not H2.out (by decide) (by decide) (by decide)))
     have R4 := aside (blk_keep R2.out k4 (S2.out.not R2.out (by decide) (by decide) (by decide)))
     have K4 := aside (K2.out.trans k4)
     have HC4 := aside (show w.heap.size ≤ (wr.alloc (.cells #[.int .i64 p.kind, .string p.lo, .string p.hi, .bool p.op, .int .i64 p.cnt, .int .u64 p.s0, .int .u64 p.s1, .slice p.ea p.el p.ec] 47)).heap.size from K2.out.size)
     clear t4 s4 k4 l4 C3 T2 S2 L2 H2 R2 K2 KP2 c0 c1 c2 c3 c4 c5 c6 c7 hkb
     go_wp2_with (at_builtin; go_loud (refine wpList_plain rfl fun K hK => op_append_told (B := w.heap.size) _ _ rfl _ out (by rfl) T4.out _ ql (by rfl) U4.out HQK.out HC4.out (by have h5 := HOL.out; have h6 := HQL.out; have h7 := HG1.out; omega) K4.out.size ?_); intro v6 w6 t6 gr6; refine hK _ _ ?_; refine Hid.out ?_)
     refine aside ?_
     obtain ⟨n9, xs9, o9, g9⟩ := gr6
     have T6 := aside t6
     have S6 := aside (S4.out.grownP o9 g9)
     have L6 := aside (L4.out.grownP HW0.out o9 g9)
     have H6 := aside (blk_grownP o9 g9 H4.out (by decide))
     have R6 := aside (blk_grownP o9 g9 R4.out (by decide))
     have K6 := aside (keeps_grownP K4.out o9 (Nat.le_refl _) g9)
     clear t6 o9 g9 T4 U4 S4 L4 H4 R4 K4
     go_wp2
     go_roundw
     case rel => exact ⟨j + 1, by go_num, by omega, by rw [HNX.out]; exact T6, by rw [HNX.out]; exact S6, by rw [HNX.out]; exact H6, R6, K6, L6⟩
     case measure => simp [intOf]; omega
    ·have hkb : (p.kind == 1) = false := by simpa using hk
     have C3 := aside (exch_any p S2.out HMJ.out.1 HMJ.out.2 HIN.out HMAP.out HEJ.out HCJ.out L2.out)
     have HNX0 := aside (show alN b lf ⟨⟨Ls, ck, 0, 0⟩, []⟩ P (j + 1) = _ from by rw [HSP.out, alStep_ents hk])
     have HNX1 := aside (tkAll_n (s := ⟨Lj, cj, 0, 0⟩) p.T p.el)
     have HQK := aside (show ∀ q ∈ rpQ p Lj, KeysOk q.es from fun q hq => by
      have h9 := rp_keys (p := p) HMJ.out.1 HMAP.out
      by_cases h8 : rpL p Lj = []
      ·rw [rpQ_nil h8] at hq; cases hq
      ·rw [rpQ_one h8, List.mem_singleton] at hq; subst hq; exact h9)
     have HQL := aside (rpQ_len p Lj)
     clear hk
     dsimp only at HNX0 HNX1
     obtain ⟨s2, hs2⟩ : ∃ s2, tkAll ⟨Lj, cj, 0, 0⟩ (firstE p.T p.el) = s2 := ⟨_, rfl⟩
     rw [hs2] at C3 HNX0 HNX1
     obtain ⟨L7, c77, n7, f7⟩ := s2
     dsimp only at C3 HNX0 HNX1
     go_wp2_with fail
     refine C3.out.mono ?_
     rintro e w4 ⟨v4, rfl, rp4, s4, k4, l4⟩
     have BN := bnew w4 (.cells #[.int .i64 (n7 : Int), .int .i64 (f7 : Int)] 33)
     have T4 := aside ((T2.out.keepS S2.out k4).below BN)
     have U4 := aside (((RpAt.told rp4).low (Nat.le_add_right (wr.alloc (.cells #[.int .i64 p.kind, .string p.lo, .string p.hi, .bool p.op, .int .i64 p.cnt, .int .u64 p.s0, .int .u64 p.s1, .slice p.ea p.el p.ec] 47)).heap.size 2)).below BN)
     have S4 := aside (s4.below BN)
     have L4 := aside (l4.keep BN)
     have H4 := aside (blk_on (blk_keep H2.out k4 (S2.out.not H2.out (by decide) (by decide) (by decide))) BN)
     have R4 := aside (blk_on (blk_keep R2.out k4 (S2.out.not R2.out (by decide) (by decide) (by decide))) BN)
     have G4 := aside (heap_alloc_new w4 (.cells #[.int .i64 (n7 : Int), .int .i64 (f7 : Int)] 33))
     have K4 := aside ((K2.out.trans k4).alloc (.cells #[.int .i64 (n7 : Int), .int .i64 (f7 : Int)] 33))
     have HC4 := aside (show w.heap.size ≤ (wr.alloc (.cells #[.int .i64 p.kind, .string p.lo, .string p.hi, .bool p.op, .int .i64 p.cnt, .int .u64 p.s0, .int .u64 p.s1, .slice p.ea p.el p.ec] 47)).heap.size from K2.out.size)
     have HLB := aside (show hb < w4.heap.size from by have h8 := lt_of_blk H2.out; have h9 := k4.size; omega)
     clear s4 k4 l4 rp4 BN C3 T2 S2 L2 H2 R2 K2 KP2 c0 c1 c2 c3 c4 c5 c6 c7 hkb
     generalize rpQ p Lj = ql at *
     obtain ⟨gb, hgb⟩ : ∃ gb, w4.heap.size = gb := ⟨_, rfl⟩
     rw [hgb] at G4 HLB
     obtain ⟨Y, hY⟩ : ∃ Y, w4.alloc (.cells #[.int .i64 (n7 : Int), .int .i64 (f7 : Int)] 33) = Y := ⟨_, rfl⟩
     rw [hY] at T4 U4 S4 L4 H4 R4 G4 K4
     go_wp2_with (at_builtin; go_loud (refine wpList_plain rfl fun K hK => op_append_told (B := w.heap.size) _ _ rfl _ out (by rfl) T4.out _ ql (by rfl) U4.out HQK.out HC4.out (by have h5 := HOL.out; have h6 := HQL.out; have h7 := HG1.out; omega) K4.out.size ?_); intro v6 w6 t6 gr6; refine hK _ _ ?_; refine Hid.out ?_)
     refine aside ?_
     obtain ⟨n9, xs9, o9, g9⟩ := gr6
     have T6 := aside t6
     have S6 := aside (S4.out.grownP o9 g9)
     have L6 := aside (L4.out.grownP HW0.out o9 g9)
     have H6 := aside (blk_grownP o9 g9 H4.out (by decide))
     have R6 := aside (blk_grownP o9 g9 R4.out (by decide))
     have G6 := aside (blk_grownP o9 g9 G4.out (by decide))
     have K6 := aside (keeps_grownP K4.out o9 (Nat.le_refl _) g9)
     clear t6 o9 g9 T4 U4 S4 L4 H4 R4 K4 G4 hY
     have hn1 : IntKind.i64.wrap ((n : Int) + (n7 : Int)) = (((n + n7 : Nat)) : Int) := by rw [IntKind.wrap_i64]; have h5 := HNF.out; have h6 := HNX1.out; have h7 := HEJ.out; omega
     have hf1 : IntKind.i64.wrap ((f : Int) + (f7 : Int)) = (((f + f7 : Nat)) : Int) := by rw [IntKind.wrap_i64]; have h5 := HNF.out; have h6 := HNX1.out; have h7 := HEJ.out; omega
     obtain ⟨z0, z1⟩ := two_h H6.out
     obtain ⟨x0, x1⟩ := two_h G6.out
     have y0 := frozen_of_row _ _ 0 _ _ H6.out
     have y1 := frozen_of_row _ _ 1 _ _ H6.out
     have KF := aside (((Keeps.refl (fun x => x = hb) w6).setCell (p := ⟨hb, 0, none⟩) (fun _ => rfl) (.int .i64 (((n + n7 : Nat)) : Int))).setCell (p := ⟨hb, 1, none⟩) (fun _ => rfl) (.int .i64 (((f + f7 : Nat)) : Int)))
     have SF := aside (S6.out.set H6.out (by decide) (by decide) (by decide) (by decide) KF.out)
     have LF := aside (L6.out.keeps KF.out (fun (e : 0 = hb) => by have := HLT.out; omega))
     have TF := aside (T6.out.other H6.out (by decide) (by decide) KF.out)
     have RF := aside (blk_keep R6.out KF.out (fun (e : rb = hb) => by have := HLT.out; omega))
     have KW := aside ((K6.out.setCell (p := ⟨hb, 0, none⟩) (fun hh => absurd hh (by have h8 := HNL.out; have h9 := HLT.out; simp; omega)) (.int .i64 (((n + n7 : Nat)) : Int))).setCell (p := ⟨hb, 1, none⟩) (fun hh => absurd hh (by have h8 := HNL.out; have h9 := HLT.out; simp; omega)) (.int .i64 (((f + f7 : Nat)) : Int)))
     have KR := set_in 1 (.int .i64 (((f + f7 : Nat)) : Int)) (set_in 0 (.int .i64 (((n + n7 : Nat)) : Int)) H6.out)
     simp only [List.setIfInBounds_toArray, List.set_cons_zero, List.set_cons_succ] at KR
     have HKR := aside KR
     have hne : gb ≠ hb := by have := HLB.out; omega
     have hne2 : hb ≠ gb := fun e => hne e.symm
     clear KR KF T6 S6 L6 R6 K6
     go_wp2
     go_roundw
     case rel => exact ⟨j + 1, by go_num, by omega, by rw [HNX0.out]; exact TF, by rw [HNX0.out]; exact SF, by rw [HNX0.out]; exact HKR, RF, KW, LF⟩
     case measure => simp [intOf]; omega
   ·obtain rfl : j = len := by omega
    have SA := aside (HS1.out.below (Below.refl _ wr).drew)
    have LA := aside (HL1.out.keep (Below.refl _ wr).drew)
    have TA := aside (HT1.out.below (Below.refl _ wr).drew)
    have KA := aside HK1.out.drew
    have KZ2 := aside (blk_on HR1.out (Below.refl _ wr).drew)
    obtain ⟨x0, x1⟩ := two_h HH1.out
    have HNE := aside (show hb ≠ rb from by have := HLT.out; omega)
    clear HS1 HL1 HT1 HK1 HR1 HH1
    go_wp2_with fail
    refine wp_region_held_drew (S := fun W => W.cell? ⟨hb, 0, none⟩ = some (.int .i64 (n : Int)) ∧ W.cell? ⟨hb, 1, none⟩ = some (.int .i64 (f : Int))) (by kernel_rfl) ⟨x0, x1⟩ (fun hHeld => ?_)
    refine tk 0 rfl _ ?_; refine tk 1 rfl _ ?_; refine tk 2 rfl _ ?_
    clear x0 x1
    generalize World.drew _ = Y at *
    obtain ⟨z0, z1⟩ := two_h KZ2.out
    have y0 := frozen_of_row _ _ 0 _ _ KZ2.out
    have y1 := frozen_of_row _ _ 1 _ _ KZ2.out
    have KF := aside (((Keeps.refl (fun x => x = rb) Y).setCell (p := ⟨rb, 0, none⟩) (fun _ => rfl) (.int .i64 (n : Int))).setCell (p := ⟨rb, 1, none⟩) (fun _ => rfl) (.int .i64 (f : Int)))
    have SF := aside (SA.out.set KZ2.out (by decide) (by decide) (by decide) (by decide) KF.out)
    have LF := aside (LA.out.keeps KF.out (fun (e : 0 = rb) => by have := HW0.out; omega))
    have TF := aside (TA.out.other KZ2.out (by decide) (by decide) KF.out)
    have KW := aside ((KA.out.setCell (p := ⟨rb, 0, none⟩) (fun hh => absurd hh (by have := HNL.out; simp; omega)) (.int .i64 (n : Int))).setCell (p := ⟨rb, 1, none⟩) (fun hh => absurd hh (by have := HNL.out; simp; omega)) (.int .i64 (f : Int)))
    have KR := set_in 1 (.int .i64 (f : Int)) (set_in 0 (.int .i64 (n : Int)) KZ2.out)
    simp only [List.setIfInBounds_toArray, List.set_cons_zero, List.set_cons_succ] at KR
    have HKR := aside KR
    clear KR KF
    refine rd 3 rfl fun K hK => ?_
    go_simp
    refine hK.out _ _ (⟨cell_apart (cell_apart hHeld.1 HNE.out) HNE.out, cell_apart (cell_apart hHeld.2 HNE.out) HNE.out⟩) (fun hHeld => ?_)
    clear hK K z0 z1 y0 y1
    refine tk 4 rfl _ ?_
    refine wpAnyH_done (by kernel_rfl) ?_ _
    go_wp2
    obtain ⟨r0, r1⟩ := two_h HKR.out
    refine noGoto_ret (Q := bodyPost Tryz.prog Tryz.f11 _) ?_
    exact bodyPost_ret (v := .tuple #[.slice a9 out.length c9, .agg #[.int .i64 (n : Int), .int .i64 (f : Int)], .int .i64 0]) (by simp [results, Tryz.results11, go_sem, r0, r1]) rfl ⟨_, by rw [HAE.out, HX.out, HSJ.out] <;> rfl, by rw [HX.out, HSJ.out]; exact TF.out, by rw [HX.out, HSJ.out]; exact SF.out, KW.out, LF.out⟩
end Go.Proofs.YtpbkjffiohfkcaaGreatDoor

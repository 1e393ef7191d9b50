/-
  The law MatchMeets, walked for every argument.
-/
import Derived.Test.YtoflalflacopdaaDoorBm35
namespace Go.Proofs.YtoflalflacopdaaDoor
open Go.RowKit
set_option linter.unusedVariables false
set_option maxHeartbeats 12800000 in
set_option maxRecDepth 100000 in
theorem meetsLaw_any (a : Option Addr) (len cap : Nat) (T : Nat → En) (a2 : Option Addr) (len2 cap2 : Nat) (T2 : Nat → En) (r : Rg) (w : World) (h : EntsIn w a len cap T) (hform : (a = none ∧ len = 0 ∧ cap = 0) ∨ ∃ y, a = some y) (h2 : EntsIn w a2 len2 cap2 T2) (hform2 : (a2 = none ∧ len2 = 0 ∧ cap2 = 0) ∨ ∃ y, a2 = some y) (L : Lanes w) :
    Calls Tryd.prog 4 #[.slice a len cap, .slice a2 len2 cap2, .agg #[.string r.lo, .string r.hi, .bool r.op]] w fun e w' => e = .returned (.bool true) ∧ Below w.heap.size w w' := by
  have HE := aside h
  have HE2 := aside h2
  have HF := aside hform
  have HF2 := aside hform2
  have LL := aside L
  clear h hform L h2 hform2
  have B0 := aside (bnew w (.cells #[.string r.lo, .string r.hi, .bool r.op] 24))
  have K0 := aside (heap_alloc_new w (.cells #[.string r.lo, .string r.hi, .bool r.op] 24))
  obtain ⟨rb, hrb⟩ : ∃ rb, w.heap.size = rb := ⟨_, rfl⟩
  rw [hrb] at K0
  obtain ⟨w0, hw0⟩ : ∃ w0, w.alloc (.cells #[.string r.lo, .string r.hi, .bool r.op] 24) = w0 := ⟨_, rfl⟩
  rw [hw0] at B0 K0
  obtain ⟨r0, r1, r2⟩ := box3r K0.out
  have C1 := aside (one_any (⟨0, r.lo, r.hi, r.op, 0, 0, 0, none, 0, 0, fun _ => eZ⟩ : Pm) w0 (bare_in _ rfl rfl rfl))
  go_enter Tryd.func4, Tryd.ntmps4
  go_wp2_with fail
  refine C1.out.mono ?_
  rintro e w1 ⟨g1, c1, rfl, pi1, -, b1⟩
  have PI1 := aside (pi1.keep (bnew w1 (.cells #[.slice a len cap, .slice a2 len2 cap2] 22)))
  have BN := aside (bthen b1 (bnew w1 (.cells #[.slice a len cap, .slice a2 len2 cap2] 22)))
  have B1 := aside (bthen B0.out BN.out)
  have K1 := aside (blk_on K0.out BN.out)
  have LI := aside (show ListsIn (w1.alloc (.cells #[.slice a len cap, .slice a2 len2 cap2] 22)) w1.heap.size 2 (fun k => if k = 0 then a else a2) (fun k => if k = 0 then len else len2) (fun k => if k = 0 then cap else cap2) (fun k => if k = 0 then T else T2) from fun k hk => by
    have h9 := two_cells (heap_alloc_new w1 (.cells #[.slice a len cap, .slice a2 len2 cap2] 22))
    obtain rfl | rfl : k = 0 ∨ k = 1 := by omega
    · exact ⟨h9.1, HE.out.keep B1.out⟩
    · exact ⟨h9.2, HE2.out.keep B1.out⟩)
  clear b1 pi1 C1 B0 K0 BN r0 r1 r2
  obtain ⟨w2, hw2⟩ : ∃ w2, w1.alloc (.cells #[.slice a len cap, .slice a2 len2 cap2] 22) = w2 := ⟨_, rfl⟩
  rw [hw2] at PI1 B1 K1 LI
  have C2 := aside (beyond13_any (some ⟨g1, 0, none⟩) 1 c1 (fun _ => (⟨0, r.lo, r.hi, r.op, 0, 0, 0, none, 0, 0, fun _ => eZ⟩ : Pm)) w1.heap.size 2 2 _ _ _ _ w2 (by omega) LI.out PI1.out)
  go_wp2_with fail
  refine C2.out.mono ?_
  rintro e w3 ⟨q, rfl, -, b3⟩
  have B3 := aside (bthen B1.out b3)
  have K3 := aside (blk_on K1.out b3)
  clear b3 C2 LI PI1 B1 K1 hw2
  cases q with
  | true =>
    go_wp2
    go_ret
    exact ⟨rfl, B3.out⟩
  | false =>
  have C3 := aside (right13_any 4 a len cap T w3 (HE.out.keep B3.out) HF.out)
  go_wp2_with fail
  refine C3.out.mono ?_
  rintro e w4 ⟨q, rfl, hq, b4⟩
  have B4 := aside (bthen B3.out b4)
  have K4 := aside (blk_on K3.out b4)
  have HQ := aside hq
  clear b4 C3 B3 K3 hq
  cases q with
  | false =>
    go_wp2
    go_ret
    exact ⟨rfl, B4.out⟩
  | true =>
  have HO := aside (HQ.out.1 rfl)
  have C3 := aside (right13_any 5 a2 len2 cap2 T2 w4 (HE2.out.keep B4.out) HF2.out)
  go_wp2_with fail
  refine C3.out.mono ?_
  rintro e w5 ⟨q, rfl, hq, b5⟩
  have B5 := aside (bthen B4.out b5)
  have K5 := aside (blk_on K4.out b5)
  replace HQ := aside hq
  clear b5 C3 B4 K4 hq
  cases q with
  | false =>
    go_wp2
    go_ret
    exact ⟨rfl, B5.out⟩
  | true =>
  have HO2 := aside (HQ.out.1 rfl)
  clear HQ
  have C4 := aside (made13_any 4 a len cap T w5 (HE.out.keep B5.out) HF.out (LL.out.keep B5.out) HO.out)
  go_wp2_with fail
  refine C4.out.mono ?_
  rintro e w6 ⟨sa, ga, ta, da, rfl, pp, b6⟩
  have BA := bthen b6 (bnew w6 (.cells #[.pointer (some ⟨sa, 0, none⟩), .pointer (some ⟨da, 0, none⟩)] 63))
  have B6 := aside (bthen B5.out BA)
  have K6 := aside (blk_on K5.out BA)
  have PP := aside (pp.below (bnew w6 (.cells #[.pointer (some ⟨sa, 0, none⟩), .pointer (some ⟨da, 0, none⟩)] 63)))
  have KP := aside (heap_alloc_new w6 (.cells #[.pointer (some ⟨sa, 0, none⟩), .pointer (some ⟨da, 0, none⟩)] 63))
  obtain ⟨pa, hpa⟩ : ∃ pa, w6.heap.size = pa := ⟨_, rfl⟩
  rw [hpa] at KP
  have HGA := aside (show w.heap.size ≤ sa ∧ w.heap.size ≤ ga ∧ w.heap.size ≤ ta from by have h1 := pp.s; have h2 := pp.g; have h3 := pp.t; have h4 := B5.out.size; omega)
  clear b6 pp C4 BA K5 B5
  obtain ⟨w7, hw7⟩ : ∃ w7, w6.alloc (.cells #[.pointer (some ⟨sa, 0, none⟩), .pointer (some ⟨da, 0, none⟩)] 63) = w7 := ⟨_, rfl⟩
  rw [hw7] at B6 K6 PP KP
  have C5 := aside (made13_any 5 a2 len2 cap2 T2 w7 (HE2.out.keep B6.out) HF2.out (LL.out.keep B6.out) HO2.out)
  go_wp2_with fail
  clear hpa hw7
  refine C5.out.mono ?_
  rintro e w8 ⟨sb, gb, tb, db, rfl, pp, b8⟩
  have BA := bthen b8 (bnew w8 (.cells #[.pointer (some ⟨sb, 0, none⟩), .pointer (some ⟨db, 0, none⟩)] 63))
  have HLT := PP.out.code.lt
  have MS0 := aside (show MmS w rb pa w8.heap.size sa ga ta da sb gb tb db r 1099511627776 1099511627776 (firstE T len) (firstE T2 len2) (w8.alloc (.cells #[.pointer (some ⟨sb, 0, none⟩), .pointer (some ⟨db, 0, none⟩)] 63)) from
    ⟨PP.out.code.below BA, pp.code.below (bnew w8 (.cells #[.pointer (some ⟨sb, 0, none⟩), .pointer (some ⟨db, 0, none⟩)] 63)), PP.out.lanes.keep BA, bthen B6.out BA, blk_on K6.out BA, blk_on KP.out BA, heap_alloc_new w8 (.cells #[.pointer (some ⟨sb, 0, none⟩), .pointer (some ⟨db, 0, none⟩)] 63), HGA.out, by have h1 := pp.s; have h2 := pp.g; have h3 := pp.t; have h4 := B6.out.size; omega, by have h1 := pp.s; have h2 := pp.g; have h3 := pp.t; omega⟩)
  obtain ⟨pb, hpb⟩ : ∃ pb, w8.heap.size = pb := ⟨_, rfl⟩
  rw [hpb] at MS0
  clear b8 pp C5 BA HLT K6 B6 KP PP HGA
  obtain ⟨w9, hw9⟩ : ∃ w9, w8.alloc (.cells #[.pointer (some ⟨sb, 0, none⟩), .pointer (some ⟨db, 0, none⟩)] 63) = w9 := ⟨_, rfl⟩
  rw [hw9] at MS0
  clear hw0 hrb
  have HLl := aside (show (firstE T len).length = len from firstE_len T len)
  have HLm := aside (show (firstE T2 len2).length = len2 from firstE_len T2 len2)
  have Hl := aside (show MapL (firstE T len) ∧ (firstE T len).length ≤ 256 from ⟨HO.out.map, HO.out.len⟩)
  have Hm := aside (show MapL (firstE T2 len2) ∧ (firstE T2 len2).length ≤ 256 from ⟨HO2.out.map, HO2.out.len⟩)
  clear HO HO2 LL HF HF2
  obtain ⟨r0, r1, r2⟩ := box3r MS0.out.rb
  have C6 := aside (rin_any a len cap T r.lo r.hi r.op w9 (HE.out.keep MS0.out.bel) (by have h1 := HLl.out; have h2 := Hl.out.2; omega))
  rw [show (⟨r.lo, r.hi, r.op⟩ : Rg) = r from rfl, ckR_ok Hl.out.1] at C6
  have HIN2 := aside (fun (W : World) (b : Below w.heap.size w W) => rin_any a2 len2 cap2 T2 r.lo r.hi r.op W (HE2.out.keep b) (by have h1 := HLm.out; have h2 := Hm.out.2; omega))
  rw [show (⟨r.lo, r.hi, r.op⟩ : Rg) = r from rfl, ckR_ok Hm.out.1] at HIN2
  obtain ⟨l, hl⟩ : ∃ l, firstE T len = l := ⟨_, rfl⟩
  obtain ⟨m, hm⟩ : ∃ m, firstE T2 len2 = m := ⟨_, rfl⟩
  rw [hl] at C6 MS0 HLl Hl
  rw [hm] at HIN2 MS0 HLm Hm
  clear hl hm HE HE2
  go_wp2_with fail
  clear hpb hw9
  refine C6.out.mono ?_
  rintro e w10 ⟨v, rfl, ow, b10⟩
  have HB9 := aside MS0.out.bel.size
  replace MS0 := aside (MS0.out.on b10)
  clear b10 C6 r0 r1 r2
  obtain ⟨r0, r1, r2⟩ := box3r MS0.out.rb
  by_cases hc : r.chk = 0
  rotate_left
  · have hcb : (r.chk == 0) = false := by simpa using hc
    clear ow
    go_wp2
    go_ret
    exact ⟨rfl, MS0.out.bel⟩
  have HC := aside hc
  rw [hc] at ow HIN2 ⊢
  rw [outL_ok _ rfl] at ow HIN2
  have MM := aside (in_mapM Hl.out.1 r)
  have MN := aside (in_mapM Hm.out.1 r)
  obtain ⟨am, cm, rfl, em⟩ := own_ents ow (keysM MM.out)
  have OM := aside (own_low ow HB9.out)
  have EM := aside em
  clear ow em
  obtain ⟨eb, heb⟩ : ∃ eb : Bool, (eb = true ↔ (r.op = false ∧ r.lo = r.hi)) := ⟨decide (r.op = false ∧ r.lo = r.hi), by simp⟩
  have HEB := aside heb
  go_upto_region 8 with (fail)
  go_cut [83] from 84 (fun s wc => s = .bool eb ∧ wc = w10)
  case first =>
    clear heb
    obtain ⟨ov, hov⟩ : ∃ ov, r.op = ov := ⟨_, rfl⟩
    have HOV := aside hov
    rw [hov] at r2
    clear hov
    cases ov with
    | true =>
      go_wp2
      go_meet
      case rel =>
        refine ⟨?_, rfl⟩
        cases heb : eb
        · rfl
        · exact absurd ((HEB.out.1 heb).1.symm.trans HOV.out) (by simp)
    | false =>
      by_cases hlh : r.lo = r.hi
      · have hll : (r.lo.toList == r.hi.toList) = true := by rw [hlh]; simp
        have HLH := aside hlh
        clear hlh
        go_wp2
        go_meet
        case rel =>
          refine ⟨?_, rfl⟩
          rw [HEB.out.2 ⟨HOV.out, HLH.out⟩]
      · have hll : (r.lo.toList == r.hi.toList) = false := by
          cases hq : (r.lo.toList == r.hi.toList)
          · rfl
          · exact absurd (toList_inj (eq_of_beq hq)) hlh
        have HLH := aside hlh
        clear hlh
        go_wp2
        go_meet
        case rel =>
          refine ⟨?_, rfl⟩
          cases heb : eb
          · rfl
          · exact absurd (HEB.out.1 heb).2 HLH.out
  case rest =>
  obtain ⟨rfl, rfl⟩ := hcut
  clear r0 r1 r2
  cases eb with
  | true =>
    go_wp2
    go_ret
    exact ⟨rfl, MS0.out.bel⟩
  | false =>
  have HEM := aside (emp_ne HC.out (fun h => by have := HEB.out.2 h; cases this))
  clear HEB heb
  have NI := aside (Nat.le_trans (inL_len r l) Hl.out.2)
  have NJ := aside (Nat.le_trans (inL_len r m) Hm.out.2)
  obtain ⟨r0, r1, r2⟩ := box3r MS0.out.rb
  obtain ⟨u0, u1⟩ := two_cells MS0.out.pb
  have C7 := aside (xchgM 2 r am cm (inL r l) (.inl rfl) HC.out HEM.out MM.out in_has NI.out (fun h => absurd h (by decide)) MS0.out.b Hm.out.1 Hm.out.2 EM.out MS0.out.lan)
  go_wp2_with fail
  refine C7.out.mono ?_
  rintro e w11 ⟨v, rfl, rp, s11, k11, l11⟩
  obtain ⟨sB, hsB⟩ : ∃ s, tkAll ⟨m, 1099511627776, 0, 0⟩ (inL r l) = s := ⟨_, rfl⟩
  rw [hsB] at s11 ⊢
  have HSB := aside hsB
  clear hsB
  change RpM _ r (lkL (inL r m) (inL r l)) v w11 at rp
  obtain ⟨ax, nx, rfl, hnx, rp⟩ := rp
  have BN := bnew w11 (.cells #[.int .i64 (sB.n : Int), .int .i64 (sB.f : Int)] 69)
  have MS1 := aside ((MS0.out.turnB s11 k11).on BN)
  have OM1 := aside (own_on (own_keepM OM.out MS0.out.b k11) BN)
  have KH1 := aside (heap_alloc_new w11 (.cells #[.int .i64 (sB.n : Int), .int .i64 (sB.f : Int)] 69))
  have RP := aside (rp.on MS0.out.bel.size BN)
  have HBW := aside (show w.heap.size ≤ w11.heap.size from by have h1 := MS0.out.bel.size; have h2 := k11.size; omega)
  obtain ⟨hb, hhb⟩ : ∃ hb, w11.heap.size = hb := ⟨_, rfl⟩
  rw [hhb] at KH1 HBW
  obtain ⟨w12, hw12⟩ : ∃ w12, w11.alloc (.cells #[.int .i64 (sB.n : Int), .int .i64 (sB.f : Int)] 69) = w12 := ⟨_, rfl⟩
  rw [hw12] at MS1 OM1 KH1 RP
  have HLT := aside (lt_of_blk KH1.out)
  clear rp s11 k11 l11 C7 BN MS0 OM EM r0 r1 r2 u0 u1
  obtain ⟨r0, r1, r2⟩ := box3r MS1.out.rb
  have hnx1 : ¬ (1 : Int) < (nx : Int) := by omega
  have C8 := aside (HIN2.out w12 MS1.out.bel)
  go_wp2_with fail
  clear hhb hw12 hnx1
  refine C8.out.mono ?_
  rintro e w13 ⟨v, rfl, ow, b13⟩
  obtain ⟨at_, ct, rfl, et⟩ := own_ents ow (keysM MN.out)
  replace MS1 := aside (MS1.out.on b13)
  replace OM1 := aside (own_on OM1.out b13)
  replace KH1 := aside (blk_on KH1.out b13)
  replace RP := aside (RP.out.on (Nat.le_refl _) b13)
  have HBW2 := aside (show w.heap.size ≤ w12.heap.size from by have h1 := HBW.out; have h2 := HLT.out; omega)
  have OT1 := aside (own_low ow HBW2.out)
  have ET1 := aside et
  clear ow et b13 C8 HIN2 r0 r1 r2
  have C9 := aside (lackM MN.out MM.out NJ.out NI.out ET1.out (ents_ofM OM1.out MM.out))
  go_wp2_with fail
  refine C9.out.mono ?_
  rintro e w14 ⟨v, rfl, ow, b14⟩
  obtain ⟨lk, hlk⟩ : ∃ lk, lkL (inL r m) (inL r l) = lk := ⟨_, rfl⟩
  have MLK := aside (show MapL lk ∧ lk.length ≤ 256 ∧ ∀ e ∈ lk, Rg.has r e.k = true from by
    rw [← hlk]
    refine ⟨lk_map MN.out MM.out, Nat.le_trans (lk_sub _ _ MN.out MM.out).length_le NJ.out, fun e he => in_has e ((lk_sub _ _ MN.out MM.out).subset he)⟩)
  have HLK := aside hlk
  rw [hlk] at RP ow
  obtain ⟨al, cl, rfl, el⟩ := own_ents ow (keysM MLK.out.1)
  have EL1 := aside (el.keep (bnew w14 (.cells #[.int .i64 0, .int .i64 0] 69)))
  have BN := bthen b14 (bnew w14 (.cells #[.int .i64 0, .int .i64 0] 69))
  have MT1 := aside (show MmT w rb pa pb sa ga ta da sb gb tb db r 1099511627776 sB.c l sB.l am cm (inL r l) at_ ct (inL r m) hb (sB.n : Int) (sB.f : Int) w14.heap.size 0 0 (w14.alloc (.cells #[.int .i64 0, .int .i64 0] 69)) from
    ⟨MS1.out.on BN, own_on OM1.out BN, own_on OT1.out BN, blk_on KH1.out BN, heap_alloc_new w14 _, by have h1 := b14.size; have h2 := MS1.out.bel.size; omega, by have h1 := b14.size; have h2 := lt_of_blk KH1.out; omega⟩)
  replace RP := aside (RP.out.on (Nat.le_refl _) BN)
  clear ow el b14 C9 BN hlk MS1 OM1 OT1 KH1 ET1
  go_upto_if 116 with (fail)
  obtain ⟨xb, hxb⟩ : ∃ xb, w14.heap.size = xb := ⟨_, rfl⟩
  rw [hxb] at MT1 ⊢
  obtain ⟨w15, hw15⟩ : ∃ w15, w14.alloc (.cells #[.int .i64 0, .int .i64 0] 69) = w15 := ⟨_, rfl⟩
  rw [hw15] at MT1 RP EL1 ⊢
  clear hxb hw15
  go_cut [] from 31 (fun wc => MmT w rb pa pb sa ga ta da sb gb tb db r (tkAll ⟨l, 1099511627776, 0, 0⟩ lk).c sB.c (tkAll ⟨l, 1099511627776, 0, 0⟩ lk).l sB.l am cm (inL r l) at_ ct (inL r m) hb (sB.n : Int) (sB.f : Int) xb ((tkAll ⟨l, 1099511627776, 0, 0⟩ lk).n : Int) ((tkAll ⟨l, 1099511627776, 0, 0⟩ lk).f : Int) wc)
  case first =>
    rcases RP.out with ⟨hnil, rfl, rfl⟩ | ⟨hne, rfl, gx, a3, c3, rfl, hgx, kgx, o3⟩
    · subst hnil
      go_wp2
      go_meet
      case rel => exact MT1.out
    as_aux_lemma =>
    have KG := aside kgx
    have O3 := aside o3
    have HNE := aside hne
    have HGX := aside hgx
    clear RP kgx o3 hne hgx
    have hRN := rg_ne_same r.lo r.hi r.op
    have SX := aside (fun (W : World) (b : Below w15.heap.size w15 W) => (show (fun W => (W.cell? ⟨gx, 0, none⟩ = some (.int .i64 3) ∧ W.cell? ⟨gx, 1, none⟩ = some (.string r.lo) ∧ W.cell? ⟨gx, 2, none⟩ = some (.string r.hi) ∧ W.cell? ⟨gx, 3, none⟩ = some (.bool r.op) ∧ W.cell? ⟨gx, 4, none⟩ = some (.int .i64 0) ∧ W.cell? ⟨gx, 5, none⟩ = some (.int .u64 0) ∧ W.cell? ⟨gx, 6, none⟩ = some (.int .u64 0) ∧ W.cell? ⟨gx, 7, none⟩ = some (.slice a3 lk.length c3)) ∧ (W.cell? ⟨rb, 0, none⟩ = some (.string r.lo) ∧ W.cell? ⟨rb, 1, none⟩ = some (.string r.hi) ∧ W.cell? ⟨rb, 2, none⟩ = some (.bool r.op)) ∧ Below w15.heap.size w15 W) W from by
      obtain ⟨p0, p1, p2, p3, p4, p5, p6, p7⟩ := oct (p := ⟨3, r.lo, r.hi, r.op, 0, 0, 0, a3, lk.length, c3, nthE lk⟩) (blk_on KG.out b)
      exact ⟨⟨p0, p1, p2, p3, p4, p5, p6, p7⟩, box3r (blk_on MT1.out.ms.rb b), b⟩))
    have C19 := aside (fun (W : World) (b : Below w15.heap.size w15 W) => same13_yes a3 lk.length c3 (nthE lk) al lk.length cl (nthE lk) W ((ents_ofM O3.out MLK.out.1).keep b) (EL1.out.keep b) rfl)
    go_wp2_with fail
    refine wp_region_held_drew (S := fun W => (W.cell? ⟨gx, 0, none⟩ = some (.int .i64 3) ∧ W.cell? ⟨gx, 1, none⟩ = some (.string r.lo) ∧ W.cell? ⟨gx, 2, none⟩ = some (.string r.hi) ∧ W.cell? ⟨gx, 3, none⟩ = some (.bool r.op) ∧ W.cell? ⟨gx, 4, none⟩ = some (.int .i64 0) ∧ W.cell? ⟨gx, 5, none⟩ = some (.int .u64 0) ∧ W.cell? ⟨gx, 6, none⟩ = some (.int .u64 0) ∧ W.cell? ⟨gx, 7, none⟩ = some (.slice a3 lk.length c3)) ∧ (W.cell? ⟨rb, 0, none⟩ = some (.string r.lo) ∧ W.cell? ⟨rb, 1, none⟩ = some (.string r.hi) ∧ W.cell? ⟨rb, 2, none⟩ = some (.bool r.op)) ∧ Below w15.heap.size w15 W) (by kernel_rfl) (SX.out _ (Below.refl _ w15).drew) (fun hHeld => ?_)
    refine wpAnyH_take (i := 0) (v := ?_) rfl (by kernel_rfl) (by kernel_rfl) (by kernel_rfl) (fun _ _ _ h => h) (Or.inl ⟨by rfl, ?_⟩) (by assumption) ?_
    rotate_left
    · intro w hSw
      go_simp
      try with_reducible rfl
    simp only [Act.put, List.getElem_toArray, List.getElem_cons_zero, List.setIfInBounds_toArray, List.set_cons_zero, List.set_cons_succ]
    refine wpAnyH_take (i := 1) (v := ?_) rfl (by kernel_rfl) (by kernel_rfl) (by kernel_rfl) (fun _ _ _ h => h) (Or.inl ⟨by rfl, ?_⟩) (by assumption) ?_
    rotate_left
    · intro w hSw
      go_simp
      try with_reducible rfl
    simp only [Act.put, List.getElem_toArray, List.getElem_cons_zero, List.getElem_cons_succ, List.setIfInBounds_toArray, List.set_cons_zero, List.set_cons_succ]
    refine wpAnyH_take (i := 2) (v := ?_) rfl (by kernel_rfl) (by kernel_rfl) (by kernel_rfl) (fun _ _ _ h => h) (Or.inl ⟨by rfl, ?_⟩) (by assumption) ?_
    rotate_left
    · intro w hSw
      go_simp
      try with_reducible rfl
    simp only [Act.put, List.getElem_toArray, List.getElem_cons_zero, List.getElem_cons_succ, List.setIfInBounds_toArray, List.set_cons_zero, List.set_cons_succ]
    refine wpAnyH_take (i := 3) (v := ?_) rfl (by kernel_rfl) (by kernel_rfl) (by kernel_rfl) (fun _ _ _ h => h) (Or.inl ⟨by rfl, ?_⟩) (by assumption) ?_
    rotate_left
    · intro w hSw
      go_simp
      try with_reducible rfl
    simp only [Act.put, List.getElem_toArray, List.getElem_cons_zero, List.getElem_cons_succ, List.setIfInBounds_toArray, List.set_cons_zero, List.set_cons_succ]
    refine wpAnyH_take (i := 4) (v := ?_) rfl (by kernel_rfl) (by kernel_rfl) (by kernel_rfl) (fun _ _ _ h => h) (Or.inl ⟨by rfl, ?_⟩) (by assumption) ?_
    rotate_left
    · intro w hSw
      go_simp
      try with_reducible rfl
    simp only [Act.put, List.getElem_toArray, List.getElem_cons_zero, List.getElem_cons_succ, List.setIfInBounds_toArray, List.set_cons_zero, List.set_cons_succ]
    refine wpAnyH_take (i := 5) (v := ?_) rfl (by kernel_rfl) (by kernel_rfl) (by kernel_rfl) (fun _ _ _ h => h) (Or.inl ⟨by rfl, ?_⟩) (by assumption) ?_
    rotate_left
    · intro w hSw
      go_simp
      try with_reducible rfl
    simp only [Act.put, List.getElem_toArray, List.getElem_cons_zero, List.getElem_cons_succ, List.setIfInBounds_toArray, List.set_cons_zero, List.set_cons_succ]
    refine wpAnyH_take (i := 6) (v := ?_) rfl (by kernel_rfl) (by kernel_rfl) (by kernel_rfl) (fun _ _ _ h => h) (Or.inl ⟨by rfl, ?_⟩) (by assumption) ?_
    rotate_left
    · intro w hSw
      go_simp
      try with_reducible rfl
    simp only [Act.put, List.getElem_toArray, List.getElem_cons_zero, List.getElem_cons_succ, List.setIfInBounds_toArray, List.set_cons_zero, List.set_cons_succ]
    refine wpAnyH_take (i := 7) (v := ?_) rfl (by kernel_rfl) (by kernel_rfl) (by kernel_rfl) (fun _ _ _ h => h) (Or.inl ⟨by rfl, ?_⟩) (by assumption) ?_
    rotate_left
    · intro w hSw
      go_simp
      try with_reducible rfl
    simp only [Act.put, List.getElem_toArray, List.getElem_cons_zero, List.getElem_cons_succ, List.setIfInBounds_toArray, List.set_cons_zero, List.set_cons_succ]
    refine wpAnyH_take (i := 8) (v := ?_) rfl (by kernel_rfl) (by kernel_rfl) (by kernel_rfl) (fun _ _ _ h => h) (Or.inl ⟨by rfl, ?_⟩) (by assumption) ?_
    rotate_left
    · intro w hSw
      go_simp
      try with_reducible rfl
    simp only [Act.put, List.getElem_toArray, List.getElem_cons_zero, List.getElem_cons_succ, List.setIfInBounds_toArray, List.set_cons_zero, List.set_cons_succ]
    refine wpAnyH_take (i := 9) (v := ?_) rfl (by kernel_rfl) (by kernel_rfl) (by kernel_rfl) (fun _ _ _ h => h) (Or.inl ⟨by rfl, ?_⟩) (by assumption) ?_
    rotate_left
    · intro w hSw
      go_simp
      try with_reducible rfl
    simp only [Act.put, List.getElem_toArray, List.getElem_cons_zero, List.getElem_cons_succ, List.setIfInBounds_toArray, List.set_cons_zero, List.set_cons_succ]
    refine wpAnyH_take (i := 10) (v := ?_) rfl (by kernel_rfl) (by kernel_rfl) (by kernel_rfl) (fun _ _ _ h => h) (Or.inl ⟨by rfl, ?_⟩) (by assumption) ?_
    rotate_left
    · intro w hSw
      go_simp
      try with_reducible rfl
    simp only [Act.put, List.getElem_toArray, List.getElem_cons_zero, List.getElem_cons_succ, List.setIfInBounds_toArray, List.set_cons_zero, List.set_cons_succ]
    refine wpAnyH_take (i := 11) (v := ?_) rfl (by kernel_rfl) (by kernel_rfl) (by kernel_rfl) (fun _ _ _ h => h) (Or.inl ⟨by rfl, ?_⟩) (by assumption) ?_
    rotate_left
    · intro w hSw
      go_simp
      try with_reducible rfl
    simp only [Act.put, List.getElem_toArray, List.getElem_cons_zero, List.getElem_cons_succ, List.setIfInBounds_toArray, List.set_cons_zero, List.set_cons_succ]
    refine wpAnyH_take (i := 12) (v := ?_) rfl (by kernel_rfl) (by kernel_rfl) (by kernel_rfl) (fun _ _ _ h => h) (Or.inl ⟨by rfl, ?_⟩) (by assumption) ?_
    rotate_left
    · intro w hSw
      go_simp
      try with_reducible rfl
    simp only [Act.put, List.getElem_toArray, List.getElem_cons_zero, List.getElem_cons_succ, List.setIfInBounds_toArray, List.set_cons_zero, List.set_cons_succ]
    refine wpAnyH_take (i := 13) (v := ?_) rfl (by kernel_rfl) (by kernel_rfl) (by kernel_rfl) (fun _ _ _ h => h) (Or.inl ⟨by rfl, ?_⟩) (by assumption) ?_
    rotate_left
    · intro w hSw
      go_simp
      try with_reducible rfl
    simp only [Act.put, List.getElem_toArray, List.getElem_cons_zero, List.getElem_cons_succ, List.setIfInBounds_toArray, List.set_cons_zero, List.set_cons_succ]
    refine wpAnyH_take (i := 14) (v := ?_) rfl (by kernel_rfl) (by kernel_rfl) (by kernel_rfl) (fun _ _ _ h => h) (Or.inl ⟨by rfl, ?_⟩) (by assumption) ?_
    rotate_left
    · intro w hSw
      go_simp
      try with_reducible rfl
    simp only [Act.put, List.getElem_toArray, List.getElem_cons_zero, List.getElem_cons_succ, List.setIfInBounds_toArray, List.set_cons_zero, List.set_cons_succ]
    refine wpAnyH_take (i := 15) (v := ?_) rfl (by kernel_rfl) (by kernel_rfl) (by kernel_rfl) (fun _ _ _ h => h) (Or.inl ⟨by rfl, ?_⟩) (by assumption) ?_
    rotate_left
    · intro w hSw
      go_simp
      try with_reducible rfl
    simp only [Act.put, List.getElem_toArray, List.getElem_cons_zero, List.getElem_cons_succ, List.setIfInBounds_toArray, List.set_cons_zero, List.set_cons_succ]
    refine wpAnyH_take (i := 16) (v := ?_) rfl (by kernel_rfl) (by kernel_rfl) (by kernel_rfl) (fun _ _ _ h => h) (Or.inl ⟨by rfl, ?_⟩) (by assumption) ?_
    rotate_left
    · intro w hSw
      go_simp
      try with_reducible rfl
    simp only [Act.put, List.getElem_toArray, List.getElem_cons_zero, List.getElem_cons_succ, List.setIfInBounds_toArray, List.set_cons_zero, List.set_cons_succ]
    refine wpAnyH_take (i := 17) (v := ?_) rfl (by kernel_rfl) (by kernel_rfl) (by kernel_rfl) (fun _ _ _ h => h) (Or.inl ⟨by rfl, ?_⟩) (by assumption) ?_
    rotate_left
    · intro w hSw
      go_simp
      try with_reducible rfl
    simp only [Act.put, List.getElem_toArray, List.getElem_cons_zero, List.getElem_cons_succ, List.setIfInBounds_toArray, List.set_cons_zero, List.set_cons_succ]
    refine wpAnyH_take (i := 18) (v := ?_) rfl (by kernel_rfl) (by kernel_rfl) (by kernel_rfl) (fun _ _ _ h => h) (Or.inl ⟨by rfl, ?_⟩) (by assumption) ?_
    rotate_left
    · intro w hSw
      go_simp
      try with_reducible rfl
    simp only [Act.put, List.getElem_toArray, List.getElem_cons_zero, List.getElem_cons_succ, List.setIfInBounds_toArray, List.set_cons_zero, List.set_cons_succ]
    refine wpAnyH_ready (rs := [19]) (by kernel_rfl) (by simp) ?_
    refine AllReadyH.cons rfl (fun K hK => ?_) AllReadyH.nil
    go_simp
    refine (C19.out _ hHeld.2.2).mono ?_
    rintro e w16 ⟨rfl, bb⟩
    refine hK.out _ _ (SX.out _ (bthen hHeld.2.2 bb)) (fun hHeld => ?_)
    clear hK K bb
    refine wpAnyH_take (i := 20) (v := ?_) rfl (by kernel_rfl) (by kernel_rfl) (by kernel_rfl) (fun _ _ _ h => h) (Or.inl ⟨by rfl, ?_⟩) (by assumption) ?_
    rotate_left
    · intro w hSw
      go_simp
      try with_reducible rfl
    simp only [Act.put, List.getElem_toArray, List.getElem_cons_zero, List.getElem_cons_succ, List.setIfInBounds_toArray, List.set_cons_zero, List.set_cons_succ]
    refine wpAnyH_take (i := 21) (v := ?_) rfl (by kernel_rfl) (by kernel_rfl) (by kernel_rfl) (fun _ _ _ h => h) (Or.inl ⟨by rfl, ?_⟩) (by assumption) ?_
    rotate_left
    · intro w hSw
      go_simp
      try with_reducible rfl
    simp only [Act.put, List.getElem_toArray, List.getElem_cons_zero, List.getElem_cons_succ, List.setIfInBounds_toArray, List.set_cons_zero, List.set_cons_succ]
    refine wpAnyH_done (by kernel_rfl) ?_ _
    have BX := hHeld.2.2
    have MT2 := aside (MT1.out.on BX)
    replace KG := aside (blk_on KG.out BX)
    replace O3 := aside (own_on O3.out BX)
    clear hHeld BX SX C19 MT1 hRN
    obtain ⟨sA, hSA⟩ : ∃ s, (tkAll ⟨l, 1099511627776, 0, 0⟩ lk) = s := ⟨_, rfl⟩
    obtain ⟨nA, hnA⟩ : ∃ n, sA.n = n := ⟨_, rfl⟩
    obtain ⟨fA, hfA⟩ : ∃ n, sA.f = n := ⟨_, rfl⟩
    have C10 := aside (fun (W : World) (b : Below w16.heap.size w16 W) => xchgM 3 r a3 c3 lk (.inr rfl) HC.out HEM.out MLK.out.1 MLK.out.2.2 MLK.out.2.1 (fun _ => HNE.out) (MT2.out.on b).ms.a Hl.out.1 Hl.out.2 ((ents_ofM O3.out MLK.out.1).keep b) (MT2.out.on b).ms.lan)
    rw [hSA] at C10
    simp only [hnA, hfA] at C10
    have HNA := aside (MT2.out.ms.a.not MT2.out.ms.pa (by decide) (by decide) (by decide))
    have HNG := aside (MT2.out.ms.a.not KG.out (by decide) (by decide) (by decide))
    obtain ⟨u0, u1⟩ := two_cells MT2.out.ms.pa
    obtain ⟨d0, d1, d2, d3, d4, d5, d6, d7⟩ := oct (p := ⟨3, r.lo, r.hi, r.op, 0, 0, 0, a3, lk.length, c3, nthE lk⟩) KG.out
    clear HGX O3 EL1
    go_wp2_with fail
    refine wp_region_held_drew (S := fun W => W.cell? ⟨pa, 0, none⟩ = some (.pointer (some ⟨sa, 0, none⟩)) ∧ W.cell? ⟨gx, 0, none⟩ = some (.int .i64 3) ∧ W.cell? ⟨gx, 1, none⟩ = some (.string r.lo) ∧ W.cell? ⟨gx, 2, none⟩ = some (.string r.hi) ∧ W.cell? ⟨gx, 3, none⟩ = some (.bool r.op) ∧ W.cell? ⟨gx, 4, none⟩ = some (.int .i64 0) ∧ W.cell? ⟨gx, 5, none⟩ = some (.int .u64 0) ∧ W.cell? ⟨gx, 6, none⟩ = some (.int .u64 0) ∧ W.cell? ⟨gx, 7, none⟩ = some (.slice a3 lk.length c3)) (by kernel_rfl) ⟨u0, d0, d1, d2, d3, d4, d5, d6, d7⟩ (fun hHeld => ?_)
    clear d0 d1 d2 d3 d4 d5 d6 d7 u0 u1
    refine wpAnyH_take (i := 0) (v := ?_) rfl (by kernel_rfl) (by kernel_rfl) (by kernel_rfl) (fun _ _ _ h => h) (Or.inl ⟨by rfl, ?_⟩) (by assumption) ?_
    rotate_left
    · intro w hSw
      go_simp
      try with_reducible rfl
    simp only [Act.put, List.getElem_toArray, List.getElem_cons_zero, List.setIfInBounds_toArray, List.set_cons_zero, List.set_cons_succ]
    refine wpAnyH_take (i := 1) (v := ?_) rfl (by kernel_rfl) (by kernel_rfl) (by kernel_rfl) (fun _ _ _ h => h) (Or.inl ⟨by rfl, ?_⟩) (by assumption) ?_
    rotate_left
    · intro w hSw
      go_simp
      try with_reducible rfl
    simp only [Act.put, List.getElem_toArray, List.getElem_cons_zero, List.getElem_cons_succ, List.setIfInBounds_toArray, List.set_cons_zero, List.set_cons_succ]
    refine wpAnyH_take (i := 2) (v := ?_) rfl (by kernel_rfl) (by kernel_rfl) (by kernel_rfl) (fun _ _ _ h => h) (Or.inl ⟨by rfl, ?_⟩) (by assumption) ?_
    rotate_left
    · intro w hSw
      go_simp
      try with_reducible rfl
    simp only [Act.put, List.getElem_toArray, List.getElem_cons_zero, List.getElem_cons_succ, List.setIfInBounds_toArray, List.set_cons_zero, List.set_cons_succ]
    refine wpAnyH_take (i := 3) (v := ?_) rfl (by kernel_rfl) (by kernel_rfl) (by kernel_rfl) (fun _ _ _ h => h) (Or.inl ⟨by rfl, ?_⟩) (by assumption) ?_
    rotate_left
    · intro w hSw
      go_simp
      try with_reducible rfl
    simp only [Act.put, List.getElem_toArray, List.getElem_cons_zero, List.getElem_cons_succ, List.setIfInBounds_toArray, List.set_cons_zero, List.set_cons_succ]
    refine wpAnyH_take (i := 4) (v := ?_) rfl (by kernel_rfl) (by kernel_rfl) (by kernel_rfl) (fun _ _ _ h => h) (Or.inl ⟨by rfl, ?_⟩) (by assumption) ?_
    rotate_left
    · intro w hSw
      go_simp
      try with_reducible rfl
    simp only [Act.put, List.getElem_toArray, List.getElem_cons_zero, List.getElem_cons_succ, List.setIfInBounds_toArray, List.set_cons_zero, List.set_cons_succ]
    refine wpAnyH_ready (rs := [5, 10]) (by kernel_rfl) (by simp) ?_
    refine AllReadyH.cons rfl (fun K hK => ?_) (AllReadyH.cons rfl (fun K hK => ?_) AllReadyH.nil)
    · as_aux_lemma =>
      go_simp
      refine (C10.out _ (Below.refl w16.heap.size w16).drew).mono ?_
      rintro e w17 ⟨v, rfl, rp, s17, k17, l17⟩
      obtain ⟨ax2, nx2, rfl, -, ⟨-, rfl, rfl⟩ | ⟨hh, -⟩⟩ := rp
      rotate_left
      · exact absurd rfl hh
      refine hK.out _ _ (⟨(k17.cell (World.block_lt_of_cell? _ _ hHeld.1) HNA.out).trans hHeld.1, (k17.cell (World.block_lt_of_cell? _ _ hHeld.2.1) HNG.out).trans hHeld.2.1, (k17.cell (World.block_lt_of_cell? _ _ hHeld.2.2.1) HNG.out).trans hHeld.2.2.1, (k17.cell (World.block_lt_of_cell? _ _ hHeld.2.2.2.1) HNG.out).trans hHeld.2.2.2.1, (k17.cell (World.block_lt_of_cell? _ _ hHeld.2.2.2.2.1) HNG.out).trans hHeld.2.2.2.2.1, (k17.cell (World.block_lt_of_cell? _ _ hHeld.2.2.2.2.2.1) HNG.out).trans hHeld.2.2.2.2.2.1, (k17.cell (World.block_lt_of_cell? _ _ hHeld.2.2.2.2.2.2.1) HNG.out).trans hHeld.2.2.2.2.2.2.1, (k17.cell (World.block_lt_of_cell? _ _ hHeld.2.2.2.2.2.2.2.1) HNG.out).trans hHeld.2.2.2.2.2.2.2.1, (k17.cell (World.block_lt_of_cell? _ _ hHeld.2.2.2.2.2.2.2.2) HNG.out).trans hHeld.2.2.2.2.2.2.2.2⟩) (fun hHeld => ?_)
      clear hK K
      refine wpAnyH_take (i := 6) (v := ?_) rfl (by kernel_rfl) (by kernel_rfl) (by kernel_rfl) (fun _ _ _ h => h) (Or.inl ⟨by rfl, ?_⟩) (by assumption) ?_
      rotate_left
      · intro w hSw
        go_simp
        try with_reducible rfl
      simp only [Act.put, List.getElem_toArray, List.getElem_cons_zero, List.getElem_cons_succ, List.setIfInBounds_toArray, List.set_cons_zero, List.set_cons_succ]
      refine wpAnyH_take (i := 7) (v := ?_) rfl (by kernel_rfl) (by kernel_rfl) (by kernel_rfl) (fun _ _ _ h => h) (Or.inl ⟨by rfl, ?_⟩) (by assumption) ?_
      rotate_left
      · intro w hSw
        go_simp
        try with_reducible rfl
      simp only [Act.put, List.getElem_toArray, List.getElem_cons_zero, List.getElem_cons_succ, List.setIfInBounds_toArray, List.set_cons_zero, List.set_cons_succ]
      refine wpAnyH_take (i := 8) (v := ?_) rfl (by kernel_rfl) (by kernel_rfl) (by kernel_rfl) (fun _ _ _ h => h) (Or.inl ⟨by rfl, ?_⟩) (by assumption) ?_
      rotate_left
      · intro w hSw
        go_simp
        try with_reducible rfl
      simp only [Act.put, List.getElem_toArray, List.getElem_cons_zero, List.getElem_cons_succ, List.setIfInBounds_toArray, List.set_cons_zero, List.set_cons_succ]
      refine wpAnyH_take (i := 9) (v := ?_) rfl (by kernel_rfl) (by kernel_rfl) (by kernel_rfl) (fun _ _ _ h => h) (Or.inl ⟨by rfl, ?_⟩) (by assumption) ?_
      rotate_left
      · intro w hSw
        go_simp
        try with_reducible rfl
      simp only [Act.put, List.getElem_toArray, List.getElem_cons_zero, List.getElem_cons_succ, List.setIfInBounds_toArray, List.set_cons_zero, List.set_cons_succ]
      have MTd := MT2.out.on (Below.refl w16.heap.size w16).drew
      have NB := bnew w17 (.cells #[.int .i64 0, .int .i64 0] 69)
      have KN := aside (heap_alloc_new w17 (.cells #[.int .i64 0, .int .i64 0] 69))
      have MTv := aside ((MTd.turnA s17 k17).on NB)
      have HNL := aside (show w.heap.size ≤ w17.heap.size ∧ hb ≠ w17.heap.size ∧ xb ≠ w17.heap.size from ⟨(MTd.turnA s17 k17).ms.bel.size, by have := lt_of_blk (MTd.turnA s17 k17).kh; omega, by have := lt_of_blk (MTd.turnA s17 k17).kx; omega⟩)
      have HPN := aside (show pa ≠ w17.heap.size ∧ gx ≠ w17.heap.size from ⟨by have := World.block_lt_of_cell? _ _ hHeld.1; simp at this; omega, by have := World.block_lt_of_cell? _ _ hHeld.2.1; simp at this; omega⟩)
      refine wpAnyH_ready (rs := [10]) (by kernel_rfl) (by simp) ?_
      refine AllReadyH.cons rfl (fun K hK => ?_) AllReadyH.nil
      go_simp
      refine hK.out _ _ (⟨cell_in hHeld.1 (bnew _ _), cell_in hHeld.2.1 (bnew _ _), cell_in hHeld.2.2.1 (bnew _ _), cell_in hHeld.2.2.2.1 (bnew _ _), cell_in hHeld.2.2.2.2.1 (bnew _ _), cell_in hHeld.2.2.2.2.2.1 (bnew _ _), cell_in hHeld.2.2.2.2.2.2.1 (bnew _ _), cell_in hHeld.2.2.2.2.2.2.2.1 (bnew _ _), cell_in hHeld.2.2.2.2.2.2.2.2 (bnew _ _)⟩) (fun hHeld => ?_)
      clear hK K s17 k17 l17 NB MTd
      obtain ⟨V, hV⟩ : ∃ V, w17.alloc (.cells #[.int .i64 0, .int .i64 0] 69) = V := ⟨_, rfl⟩
      obtain ⟨nb, hnb⟩ : ∃ nb, w17.heap.size = nb := ⟨_, rfl⟩
      rw [hV] at KN MTv hHeld ⊢
      rw [hnb] at KN HPN HNL ⊢
      clear hV hnb
      refine wpAnyH_take (i := 11) (v := ?_) rfl (by kernel_rfl) (by kernel_rfl) (by kernel_rfl) (fun _ _ _ h => h) (Or.inl ⟨by rfl, ?_⟩) (by assumption) ?_
      rotate_left
      · intro w hSw
        go_simp
        try with_reducible rfl
      simp only [Act.put, List.getElem_toArray, List.getElem_cons_zero, List.getElem_cons_succ, List.setIfInBounds_toArray, List.set_cons_zero, List.set_cons_succ]
      obtain ⟨z0, z1⟩ := two_cells KN.out
      have y0 := frozen_of_row _ _ 0 _ _ KN.out
      have y1 := frozen_of_row _ _ 1 _ _ KN.out
      have KF := aside (((Keeps.refl (fun x => x = nb) V).setCell (p := ⟨nb, 0, none⟩) (fun _ => rfl) (.int .i64 (nA : Int))).setCell (p := ⟨nb, 1, none⟩) (fun _ => rfl) (.int .i64 (fA : Int)))
      have MT3 := aside (MTv.out.set KN.out HNL.out.1 HNL.out.2.1 HNL.out.2.2 KF.out)
      have KR := set_in 1 (.int .i64 (fA : Int)) (set_in 0 (.int .i64 (nA : Int)) KN.out)
      simp only [List.setIfInBounds_toArray, List.set_cons_zero, List.set_cons_succ] at KR
      have KN3 := aside KR
      clear KR KF
      refine wpAnyH_ready (rs := [12]) (by kernel_rfl) (by simp) ?_
      refine AllReadyH.cons rfl (fun K hK => ?_) AllReadyH.nil
      go_simp
      refine hK.out _ _ (⟨cell_apart (cell_apart hHeld.1 HPN.out.1) HPN.out.1, cell_apart (cell_apart hHeld.2.1 HPN.out.2) HPN.out.2, cell_apart (cell_apart hHeld.2.2.1 HPN.out.2) HPN.out.2, cell_apart (cell_apart hHeld.2.2.2.1 HPN.out.2) HPN.out.2, cell_apart (cell_apart hHeld.2.2.2.2.1 HPN.out.2) HPN.out.2, cell_apart (cell_apart hHeld.2.2.2.2.2.1 HPN.out.2) HPN.out.2, cell_apart (cell_apart hHeld.2.2.2.2.2.2.1 HPN.out.2) HPN.out.2, cell_apart (cell_apart hHeld.2.2.2.2.2.2.2.1 HPN.out.2) HPN.out.2, cell_apart (cell_apart hHeld.2.2.2.2.2.2.2.2 HPN.out.2) HPN.out.2⟩) (fun hHeld => ?_)
      clear hK K z0 z1 y0 y1 KN
      refine wpAnyH_take (i := 13) (v := ?_) rfl (by kernel_rfl) (by kernel_rfl) (by kernel_rfl) (fun _ _ _ h => h) (Or.inl ⟨by rfl, ?_⟩) (by assumption) ?_
      rotate_left
      · intro w hSw
        go_simp
        try with_reducible rfl
      simp only [Act.put, List.getElem_toArray, List.getElem_cons_zero, List.getElem_cons_succ, List.setIfInBounds_toArray, List.set_cons_zero, List.set_cons_succ]
      refine wpAnyH_done (by kernel_rfl) ?_ _
      clear hHeld HPN
      obtain ⟨W3, hW3⟩ : ∃ W3, ((V.setCell ⟨nb, 0, none⟩ (.int .i64 (nA : Int))).setCell ⟨nb, 1, none⟩ (.int .i64 (fA : Int))) = W3 := ⟨_, rfl⟩
      rw [hW3] at MT3 KN3 ⊢
      clear hW3
      obtain ⟨n0, n1⟩ := two_cells KN3.out
      obtain ⟨x0, x1⟩ := two_cells MT3.out.kx
      have f0 := frozen_of_row _ _ 0 _ _ MT3.out.kx
      have f1 := frozen_of_row _ _ 1 _ _ MT3.out.kx
      have KR := set_in 1 (.int .i64 (fA : Int)) (set_in 0 (.int .i64 (nA : Int)) MT3.out.kx)
      simp only [List.setIfInBounds_toArray, List.set_cons_zero, List.set_cons_succ] at KR
      have KX3 := aside KR
      clear KR
      go_wp2
      go_meet
      case rel =>
        rw [hSA, hnA, hfA]
        exact MT3.out.setX KX3.out (((Keeps.refl (fun x => x = xb) W3).setCell (p := ⟨xb, 0, none⟩) (fun _ => rfl) (.int .i64 (nA : Int))).setCell (p := ⟨xb, 1, none⟩) (fun _ => rfl) (.int .i64 (fA : Int)))
    · as_aux_lemma =>
      go_simp
      have NB : Below w16.heap.size w16 (w16.alloc (.cells #[.int .i64 0, .int .i64 0] 69)).drew := (bnew w16 (.cells #[.int .i64 0, .int .i64 0] 69)).drew
      have KN0 : (w16.alloc (.cells #[.int .i64 0, .int .i64 0] 69)).drew.heap[w16.heap.size]? = some (.cells #[.int .i64 0, .int .i64 0] 69 (0, 0)) := heap_alloc_new w16 (.cells #[.int .i64 0, .int .i64 0] 69)
      have HNL := aside (show w.heap.size ≤ w16.heap.size ∧ hb ≠ w16.heap.size ∧ xb ≠ w16.heap.size from ⟨MT2.out.ms.bel.size, by have := lt_of_blk MT2.out.kh; omega, by have := lt_of_blk MT2.out.kx; omega⟩)
      have HPN := aside (show pa ≠ w16.heap.size ∧ gx ≠ w16.heap.size from ⟨by have := lt_of_blk MT2.out.ms.pa; omega, by have := lt_of_blk KG.out; omega⟩)
      refine hK.out _ _ (⟨cell_in hHeld.1 (bnew _ _), cell_in hHeld.2.1 (bnew _ _), cell_in hHeld.2.2.1 (bnew _ _), cell_in hHeld.2.2.2.1 (bnew _ _), cell_in hHeld.2.2.2.2.1 (bnew _ _), cell_in hHeld.2.2.2.2.2.1 (bnew _ _), cell_in hHeld.2.2.2.2.2.2.1 (bnew _ _), cell_in hHeld.2.2.2.2.2.2.2.1 (bnew _ _), cell_in hHeld.2.2.2.2.2.2.2.2 (bnew _ _)⟩) (fun hHeld => ?_)
      clear hK K
      have C11 := aside (C10.out _ NB)
      have MTn := aside (MT2.out.on NB)
      obtain ⟨V, hV⟩ : ∃ V, (w16.alloc (.cells #[.int .i64 0, .int .i64 0] 69)).drew = V := ⟨_, rfl⟩
      obtain ⟨nb, hnb⟩ : ∃ nb, w16.heap.size = nb := ⟨_, rfl⟩
      rw [hV] at NB KN0 hHeld C11 MTn ⊢
      rw [hnb] at KN0 HPN HNL
      first | rw [hnb] | (show wpAnyH _ _ _ _ _ _ _ _ _; rw [show w16.drew.heap.size = nb from hnb])
      clear hnb hV NB
      have KNH := aside KN0
      clear KN0
      refine wpAnyH_ready (rs := [5]) (by kernel_rfl) (by simp) ?_
      refine AllReadyH.cons rfl (fun K hK => ?_) AllReadyH.nil
      go_simp
      refine C11.out.mono ?_
      rintro e w17 ⟨v, rfl, rp, s17, k17, l17⟩
      obtain ⟨ax2, nx2, rfl, -, ⟨-, rfl, rfl⟩ | ⟨hh, -⟩⟩ := rp
      rotate_left
      · exact absurd rfl hh
      refine hK.out _ _ (⟨(k17.cell (World.block_lt_of_cell? _ _ hHeld.1) HNA.out).trans hHeld.1, (k17.cell (World.block_lt_of_cell? _ _ hHeld.2.1) HNG.out).trans hHeld.2.1, (k17.cell (World.block_lt_of_cell? _ _ hHeld.2.2.1) HNG.out).trans hHeld.2.2.1, (k17.cell (World.block_lt_of_cell? _ _ hHeld.2.2.2.1) HNG.out).trans hHeld.2.2.2.1, (k17.cell (World.block_lt_of_cell? _ _ hHeld.2.2.2.2.1) HNG.out).trans hHeld.2.2.2.2.1, (k17.cell (World.block_lt_of_cell? _ _ hHeld.2.2.2.2.2.1) HNG.out).trans hHeld.2.2.2.2.2.1, (k17.cell (World.block_lt_of_cell? _ _ hHeld.2.2.2.2.2.2.1) HNG.out).trans hHeld.2.2.2.2.2.2.1, (k17.cell (World.block_lt_of_cell? _ _ hHeld.2.2.2.2.2.2.2.1) HNG.out).trans hHeld.2.2.2.2.2.2.2.1, (k17.cell (World.block_lt_of_cell? _ _ hHeld.2.2.2.2.2.2.2.2) HNG.out).trans hHeld.2.2.2.2.2.2.2.2⟩) (fun hHeld => ?_)
      clear hK K
      have KN := aside (blk_keep KNH.out k17 (MTn.out.ms.a.not KNH.out (by decide) (by decide) (by decide)))
      have MTv := aside (MTn.out.turnA s17 k17)
      clear s17 k17 l17 KNH MTn C11
      refine wpAnyH_take (i := 6) (v := ?_) rfl (by kernel_rfl) (by kernel_rfl) (by kernel_rfl) (fun _ _ _ h => h) (Or.inl ⟨by rfl, ?_⟩) (by assumption) ?_
      rotate_left
      · intro w hSw
        go_simp
        try with_reducible rfl
      simp only [Act.put, List.getElem_toArray, List.getElem_cons_zero, List.getElem_cons_succ, List.setIfInBounds_toArray, List.set_cons_zero, List.set_cons_succ]
      refine wpAnyH_take (i := 7) (v := ?_) rfl (by kernel_rfl) (by kernel_rfl) (by kernel_rfl) (fun _ _ _ h => h) (Or.inl ⟨by rfl, ?_⟩) (by assumption) ?_
      rotate_left
      · intro w hSw
        go_simp
        try with_reducible rfl
      simp only [Act.put, List.getElem_toArray, List.getElem_cons_zero, List.getElem_cons_succ, List.setIfInBounds_toArray, List.set_cons_zero, List.set_cons_succ]
      refine wpAnyH_take (i := 8) (v := ?_) rfl (by kernel_rfl) (by kernel_rfl) (by kernel_rfl) (fun _ _ _ h => h) (Or.inl ⟨by rfl, ?_⟩) (by assumption) ?_
      rotate_left
      · intro w hSw
        go_simp
        try with_reducible rfl
      simp only [Act.put, List.getElem_toArray, List.getElem_cons_zero, List.getElem_cons_succ, List.setIfInBounds_toArray, List.set_cons_zero, List.set_cons_succ]
      refine wpAnyH_take (i := 9) (v := ?_) rfl (by kernel_rfl) (by kernel_rfl) (by kernel_rfl) (fun _ _ _ h => h) (Or.inl ⟨by rfl, ?_⟩) (by assumption) ?_
      rotate_left
      · intro w hSw
        go_simp
        try with_reducible rfl
      simp only [Act.put, List.getElem_toArray, List.getElem_cons_zero, List.getElem_cons_succ, List.setIfInBounds_toArray, List.set_cons_zero, List.set_cons_succ]
      refine wpAnyH_take (i := 11) (v := ?_) rfl (by kernel_rfl) (by kernel_rfl) (by kernel_rfl) (fun _ _ _ h => h) (Or.inl ⟨by rfl, ?_⟩) (by assumption) ?_
      rotate_left
      · intro w hSw
        go_simp
        try with_reducible rfl
      simp only [Act.put, List.getElem_toArray, List.getElem_cons_zero, List.getElem_cons_succ, List.setIfInBounds_toArray, List.set_cons_zero, List.set_cons_succ]
      obtain ⟨z0, z1⟩ := two_cells KN.out
      have y0 := frozen_of_row _ _ 0 _ _ KN.out
      have y1 := frozen_of_row _ _ 1 _ _ KN.out
      have KF := aside (((Keeps.refl (fun x => x = nb) w17).setCell (p := ⟨nb, 0, none⟩) (fun _ => rfl) (.int .i64 (nA : Int))).setCell (p := ⟨nb, 1, none⟩) (fun _ => rfl) (.int .i64 (fA : Int)))
      have MT3 := aside (MTv.out.set KN.out HNL.out.1 HNL.out.2.1 HNL.out.2.2 KF.out)
      have KR := set_in 1 (.int .i64 (fA : Int)) (set_in 0 (.int .i64 (nA : Int)) KN.out)
      simp only [List.setIfInBounds_toArray, List.set_cons_zero, List.set_cons_succ] at KR
      have KN3 := aside KR
      clear KR KF
      refine wpAnyH_ready (rs := [12]) (by kernel_rfl) (by simp) ?_
      refine AllReadyH.cons rfl (fun K hK => ?_) AllReadyH.nil
      go_simp
      refine hK.out _ _ (⟨cell_apart (cell_apart hHeld.1 HPN.out.1) HPN.out.1, cell_apart (cell_apart hHeld.2.1 HPN.out.2) HPN.out.2, cell_apart (cell_apart hHeld.2.2.1 HPN.out.2) HPN.out.2, cell_apart (cell_apart hHeld.2.2.2.1 HPN.out.2) HPN.out.2, cell_apart (cell_apart hHeld.2.2.2.2.1 HPN.out.2) HPN.out.2, cell_apart (cell_apart hHeld.2.2.2.2.2.1 HPN.out.2) HPN.out.2, cell_apart (cell_apart hHeld.2.2.2.2.2.2.1 HPN.out.2) HPN.out.2, cell_apart (cell_apart hHeld.2.2.2.2.2.2.2.1 HPN.out.2) HPN.out.2, cell_apart (cell_apart hHeld.2.2.2.2.2.2.2.2 HPN.out.2) HPN.out.2⟩) (fun hHeld => ?_)
      clear hK K z0 z1 y0 y1 KN
      refine wpAnyH_take (i := 13) (v := ?_) rfl (by kernel_rfl) (by kernel_rfl) (by kernel_rfl) (fun _ _ _ h => h) (Or.inl ⟨by rfl, ?_⟩) (by assumption) ?_
      rotate_left
      · intro w hSw
        go_simp
        try with_reducible rfl
      simp only [Act.put, List.getElem_toArray, List.getElem_cons_zero, List.getElem_cons_succ, List.setIfInBounds_toArray, List.set_cons_zero, List.set_cons_succ]
      refine wpAnyH_done (by kernel_rfl) ?_ _
      clear hHeld HPN
      obtain ⟨W3, hW3⟩ : ∃ W3, ((w17.setCell ⟨nb, 0, none⟩ (.int .i64 (nA : Int))).setCell ⟨nb, 1, none⟩ (.int .i64 (fA : Int))) = W3 := ⟨_, rfl⟩
      rw [hW3] at MT3 KN3 ⊢
      clear hW3
      obtain ⟨n0, n1⟩ := two_cells KN3.out
      obtain ⟨x0, x1⟩ := two_cells MT3.out.kx
      have f0 := frozen_of_row _ _ 0 _ _ MT3.out.kx
      have f1 := frozen_of_row _ _ 1 _ _ MT3.out.kx
      have KR := set_in 1 (.int .i64 (fA : Int)) (set_in 0 (.int .i64 (nA : Int)) MT3.out.kx)
      simp only [List.setIfInBounds_toArray, List.set_cons_zero, List.set_cons_succ] at KR
      have KX3 := aside KR
      clear KR
      go_wp2
      go_meet
      case rel =>
        rw [hSA, hnA, hfA]
        exact MT3.out.setX KX3.out (((Keeps.refl (fun x => x = xb) W3).setCell (p := ⟨xb, 0, none⟩) (fun _ => rfl) (.int .i64 (nA : Int))).setCell (p := ⟨xb, 1, none⟩) (fun _ => rfl) (.int .i64 (fA : Int)))
  case rest =>
  as_aux_lemma =>
  obtain ⟨sA, hSA⟩ : ∃ s, (tkAll ⟨l, 1099511627776, 0, 0⟩ lk) = s := ⟨_, rfl⟩
  have MT := aside hcut
  have HSA := aside hSA
  rw [hSA] at MT
  have RPN := aside (show (lk = [] ∧ nx = 0) ∨ (lk ≠ [] ∧ nx = 1) from RP.out.imp (fun h => ⟨h.1, h.2.2⟩) (fun h => ⟨h.1, h.2.1⟩))
  clear hSA hcut MT1 RP EL1
  obtain ⟨zb, hz⟩ : ∃ zb : Bool, zb = decide (lk = []) := ⟨_, rfl⟩
  have e1 : ((nx : Int) == 0) = zb := by rw [hz]; rcases RPN.out with ⟨h1, h2⟩ | ⟨h1, h2⟩ <;> simp [h1, h2]
  have e2 : ((lk.length : Int) == 0) = zb := by rw [hz]; rcases RPN.out with ⟨h1, h2⟩ | ⟨h1, h2⟩ <;> simp [h1]
  clear hz RPN
  obtain ⟨h0, h1⟩ := two_cells MT.out.kh
  obtain ⟨x0, x1⟩ := two_cells MT.out.kx
  obtain ⟨rf, hrf⟩ : ∃ rf : Bool, (rf = true ↔ 0 < sB.f ∨ 0 < sA.f) := ⟨decide (0 < sB.f ∨ 0 < sA.f), by simp⟩
  have HRF := aside hrf
  clear hrf
  go_upto_region 25 with (fail)
  clear e1 e2
  go_cut [171] from 172 (fun s wd => s = .bool rf ∧ wd = wc)
  case first =>
    by_cases hb1 : (0 : Int) < (sB.f : Int)
    · go_wp2
      go_meet
      case rel =>
        refine ⟨?_, rfl⟩
        rw [HRF.out.2 (.inl (by omega))]
    · go_wp2
      go_meet
      case rel =>
        refine ⟨?_, rfl⟩
        have hd : decide (0 < sA.f) = rf := by
          by_cases h : 0 < sA.f
          · rw [decide_eq_true h, HRF.out.2 (.inr h)]
          · rw [decide_eq_false h]
            cases hrf : rf
            · rfl
            · exact absurd (HRF.out.1 hrf) (by omega)
        rw [hd]
  case rest =>
  obtain ⟨rfl, rfl⟩ := hcut
  clear h0 h1 x0 x1
  have OKA := aside (show MapL sA.l ∧ sA.l.length ≤ 256 from by rw [← HSA.out]; exact tk_allM Hl.out lk)
  have OKB := aside (show MapL sB.l ∧ sB.l.length ≤ 256 from by rw [← HSB.out]; exact tk_allM Hm.out (inL r l))
  cases rf with
  | true =>
    as_aux_lemma =>
    have FULL := aside (show sA.l.length = 256 ∨ sB.l.length = 256 from by
      rcases HRF.out.1 rfl with h | h
      · right
        rw [← HSB.out] at h ⊢
        exact tkAll_full _ _ Hm.out h
      · left
        rw [← HSA.out] at h ⊢
        exact tkAll_full _ _ Hl.out h)
    obtain ⟨u0, u1⟩ := two_cells MT.out.ms.pa
    have CH := aside (held13_any MT.out.ms.a OKA.out.2)
    go_wp2_with fail
    refine CH.out.mono ?_
    rintro e w18 ⟨v, rfl, o, bb⟩
    obtain ⟨av, cv, rfl, -⟩ := own_slice o
    replace MT := aside (MT.out.on bb)
    clear o bb CH u0 u1
    by_cases hA : (sA.l.length : Int) = 256
    · have hA' : ((sA.l.length : Int) == 256) = true := by simpa using hA
      go_wp2
      go_ret
      exact ⟨rfl, MT.out.ms.bel⟩
    · have hA' : ((sA.l.length : Int) == 256) = false := by simpa using hA
      have hB' : ((sB.l.length : Int) == 256) = true := by
        rcases FULL.out with h | h
        · omega
        · simp [h]
      obtain ⟨u0, u1⟩ := two_cells MT.out.ms.pb
      have CH := aside (held13_any MT.out.ms.b OKB.out.2)
      go_wp2_with fail
      refine CH.out.mono ?_
      rintro e w19 ⟨v, rfl, o, bb⟩
      obtain ⟨bv, dv, rfl, -⟩ := own_slice o
      replace MT := aside (MT.out.on bb)
      clear o bb CH u0 u1
      go_wp2
      go_ret
      exact ⟨rfl, MT.out.ms.bel⟩
  | false =>
  have NF := aside (show sB.f = 0 ∧ sA.f = 0 from by
    constructor
    · apply Classical.byContradiction
      intro h
      have := HRF.out.2 (.inl (by omega))
      cases this
    · apply Classical.byContradiction
      intro h
      have := HRF.out.2 (.inr (by omega))
      cases this)
  have HLA := aside (show sA.l = mxL l lk from by rw [← HSA.out]; exact tkAll_mx lk ⟨l, 1099511627776, 0, 0⟩ Hl.out MLK.out.1 (by rw [HSA.out]; exact NF.out.2))
  have HLB := aside (show sB.l = mxL m (inL r l) from by rw [← HSB.out]; exact tkAll_mx (inL r l) ⟨m, 1099511627776, 0, 0⟩ Hm.out MM.out (by rw [HSB.out]; exact NF.out.1))
  have HIA := aside (show inL r sA.l = mxL (inL r l) (inL r m) from by
    rw [HLA.out, mx_inM Hl.out.1 MLK.out.1, in_all MLK.out.2.2, ← HLK.out, mx_lackM MN.out MM.out])
  have HIB := aside (show inL r sB.l = mxL (inL r m) (inL r l) from by
    rw [HLB.out, mx_inM Hm.out.1 MM.out, in_all (in_has (L := l))])
  have NOA := aside (show sA.l.length - (mxL (inL r l) (inL r m)).length = l.length - (inL r l).length from by
    rw [← HIA.out, HLA.out]; exact out_mx Hl.out.1 MLK.out.1 MLK.out.2.2)
  have NOB := aside (show sB.l.length - (mxL (inL r m) (inL r l)).length = m.length - (inL r m).length from by
    rw [← HIB.out, HLB.out]; exact out_mx Hm.out.1 MM.out in_has)
  have LEA := aside (show (mxL (inL r l) (inL r m)).length ≤ sA.l.length from by rw [← HIA.out]; exact inL_len _ _)
  have LEB := aside (show (mxL (inL r m) (inL r l)).length ≤ sB.l.length from by rw [← HIB.out]; exact inL_len _ _)
  have KVL := aside (mx_kvlen MM.out MN.out)
  have KVA := aside (fun i x y => @mx_kvat _ _ MM.out MN.out i x y)
  have MB := aside (mx_map MM.out MN.out)
  have MQ := aside (mx_map MN.out MM.out)
  clear HLA HLB NF HRF MLK HLK HSA HSB
  have CM := aside (maxM MM.out MN.out NI.out NJ.out (ents_ofM MT.out.om MM.out) (ents_ofM MT.out.ot MN.out))
  go_wp2_with fail
  refine CM.out.mono ?_
  rintro e w18 ⟨v, rfl, o, bb⟩
  obtain ⟨bs, hbs⟩ : ∃ bs, mxL (inL r l) (inL r m) = bs := ⟨_, rfl⟩
  obtain ⟨qs, hqs⟩ : ∃ qs, mxL (inL r m) (inL r l) = qs := ⟨_, rfl⟩
  rw [hbs] at o HIA NOA LEA KVL KVA MB
  rw [hqs] at HIB NOB LEB KVL KVA MQ
  obtain ⟨ba, bc, rfl, ev⟩ := own_ents o (keysM MB.out)
  have BE := aside ev
  replace MT := aside (MT.out.on bb)
  clear o bb ev CM hbs hqs
  have SX := aside (fun (W : World) (b : Below w18.heap.size w18 W) => (show (fun W => W.cell? ⟨pa, 0, none⟩ = some (.pointer (some ⟨sa, 0, none⟩)) ∧ (W.cell? ⟨rb, 0, none⟩ = some (.string r.lo) ∧ W.cell? ⟨rb, 1, none⟩ = some (.string r.hi) ∧ W.cell? ⟨rb, 2, none⟩ = some (.bool r.op)) ∧ Below w18.heap.size w18 W) W from ⟨(two_cells (blk_on MT.out.ms.pa b)).1, box3r (blk_on MT.out.ms.rb b), b⟩))
  have CH := aside (fun (W : World) (b : Below w18.heap.size w18 W) => held13_any (MT.out.on b).ms.a OKA.out.2)
  go_wp2_with fail
  refine wp_region_held_drew (S := fun W => W.cell? ⟨pa, 0, none⟩ = some (.pointer (some ⟨sa, 0, none⟩)) ∧ (W.cell? ⟨rb, 0, none⟩ = some (.string r.lo) ∧ W.cell? ⟨rb, 1, none⟩ = some (.string r.hi) ∧ W.cell? ⟨rb, 2, none⟩ = some (.bool r.op)) ∧ Below w18.heap.size w18 W) (by kernel_rfl) (SX.out _ (Below.refl _ w18).drew) (fun hHeld => ?_)
  refine wpAnyH_take (i := 0) (v := ?_) rfl (by kernel_rfl) (by kernel_rfl) (by kernel_rfl) (fun _ _ _ h => h) (Or.inl ⟨by rfl, ?_⟩) (by assumption) ?_
  rotate_left
  · intro w hSw
    go_simp
    try with_reducible rfl
  simp only [Act.put, List.getElem_toArray, List.getElem_cons_zero, List.setIfInBounds_toArray, List.set_cons_zero, List.set_cons_succ]
  refine wpAnyH_take (i := 1) (v := ?_) rfl (by kernel_rfl) (by kernel_rfl) (by kernel_rfl) (fun _ _ _ h => h) (Or.inl ⟨by rfl, ?_⟩) (by assumption) ?_
  rotate_left
  · intro w hSw
    go_simp
    try with_reducible rfl
  simp only [Act.put, List.getElem_toArray, List.getElem_cons_zero, List.getElem_cons_succ, List.setIfInBounds_toArray, List.set_cons_zero, List.set_cons_succ]
  refine wpAnyH_take (i := 3) (v := ?_) rfl (by kernel_rfl) (by kernel_rfl) (by kernel_rfl) (fun _ _ _ h => h) (Or.inl ⟨by rfl, ?_⟩) (by assumption) ?_
  rotate_left
  · intro w hSw
    go_simp
    try with_reducible rfl
  simp only [Act.put, List.getElem_toArray, List.getElem_cons_zero, List.getElem_cons_succ, List.setIfInBounds_toArray, List.set_cons_zero, List.set_cons_succ]
  refine wpAnyH_ready (rs := [2]) (by kernel_rfl) (by simp) ?_
  refine AllReadyH.cons rfl (fun K hK => ?_) AllReadyH.nil
  go_simp
  refine (CH.out _ hHeld.2.2).mono ?_
  rintro e w19 ⟨v, rfl, o, bb⟩
  obtain ⟨av, cv, rfl, ev⟩ := own_ents o (keysM OKA.out.1)
  have EV := aside ev
  refine hK.out _ _ (SX.out _ (bthen hHeld.2.2 bb)) (fun hHeld => ?_)
  clear hK K o ev bb
  refine wpAnyH_ready (rs := [4]) (by kernel_rfl) (by simp) ?_
  refine AllReadyH.cons rfl (fun K hK => ?_) AllReadyH.nil
  go_simp
  refine (minM HC.out OKA.out.1 OKA.out.2 EV.out).mono ?_
  rintro e w20 ⟨v, rfl, o, bb⟩
  rw [HIA.out] at o
  obtain ⟨pa, pc, rfl, ev⟩ := own_ents o (keysM MB.out)
  have pE := aside ev
  refine hK.out _ _ (SX.out _ (bthen hHeld.2.2 bb)) (fun hHeld => ?_)
  clear hK K o ev bb EV
  refine wpAnyH_take (i := 5) (v := ?_) rfl (by kernel_rfl) (by kernel_rfl) (by kernel_rfl) (fun _ _ _ h => h) (Or.inl ⟨by rfl, ?_⟩) (by assumption) ?_
  rotate_left
  · intro w hSw
    go_simp
    try with_reducible rfl
  simp only [Act.put, List.getElem_toArray, List.getElem_cons_zero, List.getElem_cons_succ, List.setIfInBounds_toArray, List.set_cons_zero, List.set_cons_succ]
  refine wpAnyH_take (i := 6) (v := ?_) rfl (by kernel_rfl) (by kernel_rfl) (by kernel_rfl) (fun _ _ _ h => h) (Or.inl ⟨by rfl, ?_⟩) (by assumption) ?_
  rotate_left
  · intro w hSw
    go_simp
    try with_reducible rfl
  simp only [Act.put, List.getElem_toArray, List.getElem_cons_zero, List.getElem_cons_succ, List.setIfInBounds_toArray, List.set_cons_zero, List.set_cons_succ]
  refine wpAnyH_take (i := 7) (v := ?_) rfl (by kernel_rfl) (by kernel_rfl) (by kernel_rfl) (fun _ _ _ h => h) (Or.inl ⟨by rfl, ?_⟩) (by assumption) ?_
  rotate_left
  · intro w hSw
    go_simp
    try with_reducible rfl
  simp only [Act.put, List.getElem_toArray, List.getElem_cons_zero, List.getElem_cons_succ, List.setIfInBounds_toArray, List.set_cons_zero, List.set_cons_succ]
  refine wpAnyH_take (i := 8) (v := ?_) rfl (by kernel_rfl) (by kernel_rfl) (by kernel_rfl) (fun _ _ _ h => h) (Or.inl ⟨by rfl, ?_⟩) (by assumption) ?_
  rotate_left
  · intro w hSw
    go_simp
    try with_reducible rfl
  simp only [Act.put, List.getElem_toArray, List.getElem_cons_zero, List.getElem_cons_succ, List.setIfInBounds_toArray, List.set_cons_zero, List.set_cons_succ]
  refine wpAnyH_take (i := 9) (v := ?_) rfl (by kernel_rfl) (by kernel_rfl) (by kernel_rfl) (fun _ _ _ h => h) (Or.inl ⟨by rfl, ?_⟩) (by assumption) ?_
  rotate_left
  · intro w hSw
    go_simp
    try with_reducible rfl
  simp only [Act.put, List.getElem_toArray, List.getElem_cons_zero, List.getElem_cons_succ, List.setIfInBounds_toArray, List.set_cons_zero, List.set_cons_succ]
  refine wpAnyH_done (by kernel_rfl) ?_ _
  have BX := hHeld.2.2
  replace MT := aside (MT.out.on BX)
  clear hHeld SX CH
  replace BE := aside (BE.out.keep BX)
  clear BX
  have SX := aside (fun (W : World) (b : Below w20.heap.size w20 W) => (show (fun W => W.cell? ⟨pb, 0, none⟩ = some (.pointer (some ⟨sb, 0, none⟩)) ∧ (W.cell? ⟨rb, 0, none⟩ = some (.string r.lo) ∧ W.cell? ⟨rb, 1, none⟩ = some (.string r.hi) ∧ W.cell? ⟨rb, 2, none⟩ = some (.bool r.op)) ∧ Below w20.heap.size w20 W) W from ⟨(two_cells (blk_on MT.out.ms.pb b)).1, box3r (blk_on MT.out.ms.rb b), b⟩))
  have CH := aside (fun (W : World) (b : Below w20.heap.size w20 W) => held13_any (MT.out.on b).ms.b OKB.out.2)
  go_wp2_with fail
  refine wp_region_held_drew (S := fun W => W.cell? ⟨pb, 0, none⟩ = some (.pointer (some ⟨sb, 0, none⟩)) ∧ (W.cell? ⟨rb, 0, none⟩ = some (.string r.lo) ∧ W.cell? ⟨rb, 1, none⟩ = some (.string r.hi) ∧ W.cell? ⟨rb, 2, none⟩ = some (.bool r.op)) ∧ Below w20.heap.size w20 W) (by kernel_rfl) (SX.out _ (Below.refl _ w20).drew) (fun hHeld => ?_)
  refine wpAnyH_take (i := 0) (v := ?_) rfl (by kernel_rfl) (by kernel_rfl) (by kernel_rfl) (fun _ _ _ h => h) (Or.inl ⟨by rfl, ?_⟩) (by assumption) ?_
  rotate_left
  · intro w hSw
    go_simp
    try with_reducible rfl
  simp only [Act.put, List.getElem_toArray, List.getElem_cons_zero, List.setIfInBounds_toArray, List.set_cons_zero, List.set_cons_succ]
  refine wpAnyH_take (i := 1) (v := ?_) rfl (by kernel_rfl) (by kernel_rfl) (by kernel_rfl) (fun _ _ _ h => h) (Or.inl ⟨by rfl, ?_⟩) (by assumption) ?_
  rotate_left
  · intro w hSw
    go_simp
    try with_reducible rfl
  simp only [Act.put, List.getElem_toArray, List.getElem_cons_zero, List.getElem_cons_succ, List.setIfInBounds_toArray, List.set_cons_zero, List.set_cons_succ]
  refine wpAnyH_take (i := 3) (v := ?_) rfl (by kernel_rfl) (by kernel_rfl) (by kernel_rfl) (fun _ _ _ h => h) (Or.inl ⟨by rfl, ?_⟩) (by assumption) ?_
  rotate_left
  · intro w hSw
    go_simp
    try with_reducible rfl
  simp only [Act.put, List.getElem_toArray, List.getElem_cons_zero, List.getElem_cons_succ, List.setIfInBounds_toArray, List.set_cons_zero, List.set_cons_succ]
  refine wpAnyH_ready (rs := [2]) (by kernel_rfl) (by simp) ?_
  refine AllReadyH.cons rfl (fun K hK => ?_) AllReadyH.nil
  go_simp
  refine (CH.out _ hHeld.2.2).mono ?_
  rintro e w19 ⟨v, rfl, o, bb⟩
  obtain ⟨av, cv, rfl, ev⟩ := own_ents o (keysM OKB.out.1)
  have EV := aside ev
  refine hK.out _ _ (SX.out _ (bthen hHeld.2.2 bb)) (fun hHeld => ?_)
  clear hK K o ev bb
  refine wpAnyH_ready (rs := [4]) (by kernel_rfl) (by simp) ?_
  refine AllReadyH.cons rfl (fun K hK => ?_) AllReadyH.nil
  go_simp
  refine (minM HC.out OKB.out.1 OKB.out.2 EV.out).mono ?_
  rintro e w21 ⟨v, rfl, o, bb⟩
  rw [HIB.out] at o
  obtain ⟨qa, qc, rfl, ev⟩ := own_ents o (keysM MQ.out)
  have qE := aside ev
  refine hK.out _ _ (SX.out _ (bthen hHeld.2.2 bb)) (fun hHeld => ?_)
  clear hK K o ev bb EV
  refine wpAnyH_take (i := 5) (v := ?_) rfl (by kernel_rfl) (by kernel_rfl) (by kernel_rfl) (fun _ _ _ h => h) (Or.inl ⟨by rfl, ?_⟩) (by assumption) ?_
  rotate_left
  · intro w hSw
    go_simp
    try with_reducible rfl
  simp only [Act.put, List.getElem_toArray, List.getElem_cons_zero, List.getElem_cons_succ, List.setIfInBounds_toArray, List.set_cons_zero, List.set_cons_succ]
  refine wpAnyH_take (i := 6) (v := ?_) rfl (by kernel_rfl) (by kernel_rfl) (by kernel_rfl) (fun _ _ _ h => h) (Or.inl ⟨by rfl, ?_⟩) (by assumption) ?_
  rotate_left
  · intro w hSw
    go_simp
    try with_reducible rfl
  simp only [Act.put, List.getElem_toArray, List.getElem_cons_zero, List.getElem_cons_succ, List.setIfInBounds_toArray, List.set_cons_zero, List.set_cons_succ]
  refine wpAnyH_take (i := 7) (v := ?_) rfl (by kernel_rfl) (by kernel_rfl) (by kernel_rfl) (fun _ _ _ h => h) (Or.inl ⟨by rfl, ?_⟩) (by assumption) ?_
  rotate_left
  · intro w hSw
    go_simp
    try with_reducible rfl
  simp only [Act.put, List.getElem_toArray, List.getElem_cons_zero, List.getElem_cons_succ, List.setIfInBounds_toArray, List.set_cons_zero, List.set_cons_succ]
  refine wpAnyH_take (i := 8) (v := ?_) rfl (by kernel_rfl) (by kernel_rfl) (by kernel_rfl) (fun _ _ _ h => h) (Or.inl ⟨by rfl, ?_⟩) (by assumption) ?_
  rotate_left
  · intro w hSw
    go_simp
    try with_reducible rfl
  simp only [Act.put, List.getElem_toArray, List.getElem_cons_zero, List.getElem_cons_succ, List.setIfInBounds_toArray, List.set_cons_zero, List.set_cons_succ]
  refine wpAnyH_take (i := 9) (v := ?_) rfl (by kernel_rfl) (by kernel_rfl) (by kernel_rfl) (fun _ _ _ h => h) (Or.inl ⟨by rfl, ?_⟩) (by assumption) ?_
  rotate_left
  · intro w hSw
    go_simp
    try with_reducible rfl
  simp only [Act.put, List.getElem_toArray, List.getElem_cons_zero, List.getElem_cons_succ, List.setIfInBounds_toArray, List.set_cons_zero, List.set_cons_succ]
  refine wpAnyH_done (by kernel_rfl) ?_ _
  have BX := hHeld.2.2
  replace MT := aside (MT.out.on BX)
  clear hHeld SX CH
  replace BE := aside (BE.out.keep BX)
  replace pE := aside (pE.out.keep BX)
  clear BX HIA HIB
  have e1 : ((qs.length : Int) == (bs.length : Int)) = true := by rw [KVL.out]; simp
  have hmx : (bs.length : Int) ≤ 256 := by have h1 := LEA.out; have h2 := OKA.out.2; omega
  go_wp2
  clear e1
  go_loopw [30] (fun i wr => ∃ j : Nat, i = .int .i64 (j : Int) ∧ j ≤ bs.length ∧ Below w21.heap.size w21 wr) (fun i _ => bs.length - (intOf i).toNat)
  case atStart => exact ⟨0, rfl, Nat.zero_le _, Below.refl _ _⟩
  case round =>
    obtain ⟨j, rfl, hj, hB⟩ := hrel
    have HB := aside hB
    clear hB
    by_cases hlt : (j : Int) < (bs.length : Int)
    · as_aux_lemma =>
      have hj0 : (0 : Int) ≤ (j : Int) := by omega
      have hlq : (j : Int) < (qs.length : Int) := by have := KVL.out; omega
      have hwr : IntKind.i64.wrap ((j : Int) + 1) = (((j + 1 : Nat)) : Int) := by rw [IntKind.wrap_i64]; omega
      have eB := BE.out.keep HB.out
      have eP := pE.out.keep HB.out
      have eQ := qE.out.keep HB.out
      rcases eB.2.2 with h0 | ⟨b1, o1, rfl, -, -⟩
      · omega
      rcases eP.2.2 with h0 | ⟨b2, o2, rfl, -, -⟩
      · omega
      rcases eQ.2.2 with h0 | ⟨b3, o3, rfl, -, -⟩
      · omega
      obtain ⟨x, hx⟩ : ∃ x, nthE bs j = x := ⟨_, rfl⟩
      obtain ⟨y, hy⟩ : ∃ y, nthE qs j = y := ⟨_, rfl⟩
      have hkv := KVA.out j x y (by rw [nthE_get (by omega), hx]) (by rw [nthE_get (by omega), hy])
      have F1 := ents_five (eB.keep (Below.refl _ wr).drew) (by omega) hx
      have F2 := ents_five (eP.keep (Below.refl _ wr).drew) (by omega) hx
      have F3 := ents_five (eQ.keep (Below.refl _ wr).drew) (by omega) hy
      rw [← hkv.1, ← hkv.2.1, ← hkv.2.2] at F3
      have G1 := aside F1
      have G2 := aside F2
      have G3 := aside F3
      have hVN : ∀ w, (binOp .neq 31 (.agg #[.int .i64 x.c, .int .i64 x.n]) (.agg #[.int .i64 x.c, .int .i64 x.n])).run Tryd.prog w = .ok (.bool false) w := fun w => by rw [verne_run]; simp
      clear eB eP eQ hx hy hkv F1 F2 F3
      go_wp2_with fail
      refine wp_region_held_drew (S := fun W => (W.cell? ⟨b1, o1 + j * 5, none⟩ = some (.string x.k) ∧ W.cell? ⟨b1, o1 + j * 5 + 1, none⟩ = some (.int .i64 x.c) ∧ W.cell? ⟨b1, o1 + j * 5 + 2, none⟩ = some (.int .i64 x.n)) ∧ (W.cell? ⟨b2, o2 + j * 5, none⟩ = some (.string x.k) ∧ W.cell? ⟨b2, o2 + j * 5 + 1, none⟩ = some (.int .i64 x.c) ∧ W.cell? ⟨b2, o2 + j * 5 + 2, none⟩ = some (.int .i64 x.n)) ∧ W.cell? ⟨b3, o3 + j * 5, none⟩ = some (.string x.k) ∧ W.cell? ⟨b3, o3 + j * 5 + 1, none⟩ = some (.int .i64 x.c) ∧ W.cell? ⟨b3, o3 + j * 5 + 2, none⟩ = some (.int .i64 x.n)) (by kernel_rfl) ⟨⟨G1.out.1, G1.out.2.1, G1.out.2.2.1⟩, ⟨G2.out.1, G2.out.2.1, G2.out.2.2.1⟩, G3.out.1, G3.out.2.1, G3.out.2.2.1⟩ (fun hHeld => ?_)
      clear G1 G2 G3
      refine wpAnyH_take (i := 0) (v := ?_) rfl (by kernel_rfl) (by kernel_rfl) (by kernel_rfl) (fun _ _ _ h => h) (Or.inl ⟨by rfl, ?_⟩) (by assumption) ?_
      rotate_left
      · intro w hSw
        go_simp
        try with_reducible rfl
      simp only [Act.put, List.getElem_toArray, List.getElem_cons_zero, List.setIfInBounds_toArray, List.set_cons_zero, List.set_cons_succ]
      refine wpAnyH_take (i := 1) (v := ?_) rfl (by kernel_rfl) (by kernel_rfl) (by kernel_rfl) (fun _ _ _ h => h) (Or.inl ⟨by rfl, ?_⟩) (by assumption) ?_
      rotate_left
      · intro w hSw
        go_simp
        try with_reducible rfl
      simp only [Act.put, List.getElem_toArray, List.getElem_cons_zero, List.getElem_cons_succ, List.setIfInBounds_toArray, List.set_cons_zero, List.set_cons_succ]
      refine wpAnyH_take (i := 2) (v := ?_) rfl (by kernel_rfl) (by kernel_rfl) (by kernel_rfl) (fun _ _ _ h => h) (Or.inl ⟨by rfl, ?_⟩) (by assumption) ?_
      rotate_left
      · intro w hSw
        go_simp
        try with_reducible rfl
      simp only [Act.put, List.getElem_toArray, List.getElem_cons_zero, List.getElem_cons_succ, List.setIfInBounds_toArray, List.set_cons_zero, List.set_cons_succ]
      refine wpAnyH_take (i := 3) (v := ?_) rfl (by kernel_rfl) (by kernel_rfl) (by kernel_rfl) (fun _ _ _ h => h) (Or.inl ⟨by rfl, ?_⟩) (by assumption) ?_
      rotate_left
      · intro w hSw
        go_simp
        try with_reducible rfl
      simp only [Act.put, List.getElem_toArray, List.getElem_cons_zero, List.getElem_cons_succ, List.setIfInBounds_toArray, List.set_cons_zero, List.set_cons_succ]
      refine wpAnyH_take (i := 4) (v := ?_) rfl (by kernel_rfl) (by kernel_rfl) (by kernel_rfl) (fun _ _ _ h => h) (Or.inl ⟨by rfl, ?_⟩) (by assumption) ?_
      rotate_left
      · intro w hSw
        go_simp
        try with_reducible rfl
      simp only [Act.put, List.getElem_toArray, List.getElem_cons_zero, List.getElem_cons_succ, List.setIfInBounds_toArray, List.set_cons_zero, List.set_cons_succ]
      refine wpAnyH_take (i := 5) (v := ?_) rfl (by kernel_rfl) (by kernel_rfl) (by kernel_rfl) (fun _ _ _ h => h) (Or.inl ⟨by rfl, ?_⟩) (by assumption) ?_
      rotate_left
      · intro w hSw
        go_simp
        try with_reducible rfl
      simp only [Act.put, List.getElem_toArray, List.getElem_cons_zero, List.getElem_cons_succ, List.setIfInBounds_toArray, List.set_cons_zero, List.set_cons_succ]
      refine wpAnyH_take (i := 6) (v := ?_) rfl (by kernel_rfl) (by kernel_rfl) (by kernel_rfl) (fun _ _ _ h => h) (Or.inl ⟨by rfl, ?_⟩) (by assumption) ?_
      rotate_left
      · intro w hSw
        go_simp
        try with_reducible rfl
      simp only [Act.put, List.getElem_toArray, List.getElem_cons_zero, List.getElem_cons_succ, List.setIfInBounds_toArray, List.set_cons_zero, List.set_cons_succ]
      refine wpAnyH_take (i := 7) (v := ?_) rfl (by kernel_rfl) (by kernel_rfl) (by kernel_rfl) (fun _ _ _ h => h) (Or.inl ⟨by rfl, ?_⟩) (by assumption) ?_
      rotate_left
      · intro w hSw
        go_simp
        try with_reducible rfl
      simp only [Act.put, List.getElem_toArray, List.getElem_cons_zero, List.getElem_cons_succ, List.setIfInBounds_toArray, List.set_cons_zero, List.set_cons_succ]
      refine wpAnyH_take (i := 8) (v := ?_) rfl (by kernel_rfl) (by kernel_rfl) (by kernel_rfl) (fun _ _ _ h => h) (Or.inl ⟨by rfl, ?_⟩) (by assumption) ?_
      rotate_left
      · intro w hSw
        go_simp
        try with_reducible rfl
      simp only [Act.put, List.getElem_toArray, List.getElem_cons_zero, List.getElem_cons_succ, List.setIfInBounds_toArray, List.set_cons_zero, List.set_cons_succ]
      refine wpAnyH_take (i := 9) (v := ?_) rfl (by kernel_rfl) (by kernel_rfl) (by kernel_rfl) (fun _ _ _ h => h) (Or.inl ⟨by rfl, ?_⟩) (by assumption) ?_
      rotate_left
      · intro w hSw
        go_simp
        try with_reducible rfl
      simp only [Act.put, List.getElem_toArray, List.getElem_cons_zero, List.getElem_cons_succ, List.setIfInBounds_toArray, List.set_cons_zero, List.set_cons_succ]
      refine wpAnyH_take (i := 10) (v := ?_) rfl (by kernel_rfl) (by kernel_rfl) (by kernel_rfl) (fun _ _ _ h => h) (Or.inl ⟨by rfl, ?_⟩) (by assumption) ?_
      rotate_left
      · intro w hSw
        go_simp
        try with_reducible rfl
      simp only [Act.put, List.getElem_toArray, List.getElem_cons_zero, List.getElem_cons_succ, List.setIfInBounds_toArray, List.set_cons_zero, List.set_cons_succ]
      refine wpAnyH_take (i := 11) (v := ?_) rfl (by kernel_rfl) (by kernel_rfl) (by kernel_rfl) (fun _ _ _ h => h) (Or.inl ⟨by rfl, ?_⟩) (by assumption) ?_
      rotate_left
      · intro w hSw
        go_simp
        try with_reducible rfl
      simp only [Act.put, List.getElem_toArray, List.getElem_cons_zero, List.getElem_cons_succ, List.setIfInBounds_toArray, List.set_cons_zero, List.set_cons_succ]
      refine wpAnyH_take (i := 12) (v := ?_) rfl (by kernel_rfl) (by kernel_rfl) (by kernel_rfl) (fun _ _ _ h => h) (Or.inl ⟨by rfl, ?_⟩) (by assumption) ?_
      rotate_left
      · intro w hSw
        go_simp
        try with_reducible rfl
      simp only [Act.put, List.getElem_toArray, List.getElem_cons_zero, List.getElem_cons_succ, List.setIfInBounds_toArray, List.set_cons_zero, List.set_cons_succ]
      refine wpAnyH_take (i := 13) (v := ?_) rfl (by kernel_rfl) (by kernel_rfl) (by kernel_rfl) (fun _ _ _ h => h) (Or.inl ⟨by rfl, ?_⟩) (by assumption) ?_
      rotate_left
      · intro w hSw
        go_simp
        try with_reducible rfl
      simp only [Act.put, List.getElem_toArray, List.getElem_cons_zero, List.getElem_cons_succ, List.setIfInBounds_toArray, List.set_cons_zero, List.set_cons_succ]
      refine wpAnyH_take (i := 14) (v := ?_) rfl (by kernel_rfl) (by kernel_rfl) (by kernel_rfl) (fun _ _ _ h => h) (Or.inl ⟨by rfl, ?_⟩) (by assumption) ?_
      rotate_left
      · intro w hSw
        go_simp
        try with_reducible rfl
      simp only [Act.put, List.getElem_toArray, List.getElem_cons_zero, List.getElem_cons_succ, List.setIfInBounds_toArray, List.set_cons_zero, List.set_cons_succ]
      refine wpAnyH_take (i := 15) (v := ?_) rfl (by kernel_rfl) (by kernel_rfl) (by kernel_rfl) (fun _ _ _ h => h) (Or.inl ⟨by rfl, ?_⟩) (by assumption) ?_
      rotate_left
      · intro w hSw
        go_simp
        try with_reducible rfl
      simp only [Act.put, List.getElem_toArray, List.getElem_cons_zero, List.getElem_cons_succ, List.setIfInBounds_toArray, List.set_cons_zero, List.set_cons_succ]
      refine wpAnyH_take (i := 16) (v := ?_) rfl (by kernel_rfl) (by kernel_rfl) (by kernel_rfl) (fun _ _ _ h => h) (Or.inl ⟨by rfl, ?_⟩) (by assumption) ?_
      rotate_left
      · intro w hSw
        go_simp
        try with_reducible rfl
      simp only [Act.put, List.getElem_toArray, List.getElem_cons_zero, List.getElem_cons_succ, List.setIfInBounds_toArray, List.set_cons_zero, List.set_cons_succ]
      refine wpAnyH_take (i := 17) (v := ?_) rfl (by kernel_rfl) (by kernel_rfl) (by kernel_rfl) (fun _ _ _ h => h) (Or.inl ⟨by rfl, ?_⟩) (by assumption) ?_
      rotate_left
      · intro w hSw
        go_simp
        try with_reducible rfl
      simp only [Act.put, List.getElem_toArray, List.getElem_cons_zero, List.getElem_cons_succ, List.setIfInBounds_toArray, List.set_cons_zero, List.set_cons_succ]
      refine wpAnyH_take (i := 18) (v := ?_) rfl (by kernel_rfl) (by kernel_rfl) (by kernel_rfl) (fun _ _ _ h => h) (Or.inl ⟨by rfl, ?_⟩) (by assumption) ?_
      rotate_left
      · intro w hSw
        go_simp
        try with_reducible rfl
      simp only [Act.put, List.getElem_toArray, List.getElem_cons_zero, List.getElem_cons_succ, List.setIfInBounds_toArray, List.set_cons_zero, List.set_cons_succ]
      refine wpAnyH_take (i := 19) (v := ?_) rfl (by kernel_rfl) (by kernel_rfl) (by kernel_rfl) (fun _ _ _ h => h) (Or.inl ⟨by rfl, ?_⟩) (by assumption) ?_
      rotate_left
      · intro w hSw
        go_simp
        try with_reducible rfl
      simp only [Act.put, List.getElem_toArray, List.getElem_cons_zero, List.getElem_cons_succ, List.setIfInBounds_toArray, List.set_cons_zero, List.set_cons_succ]
      refine wpAnyH_take (i := 20) (v := ?_) rfl (by kernel_rfl) (by kernel_rfl) (by kernel_rfl) (fun _ _ _ h => h) (Or.inl ⟨by rfl, ?_⟩) (by assumption) ?_
      rotate_left
      · intro w hSw
        go_simp
        try with_reducible rfl
      simp only [Act.put, List.getElem_toArray, List.getElem_cons_zero, List.getElem_cons_succ, List.setIfInBounds_toArray, List.set_cons_zero, List.set_cons_succ]
      refine wpAnyH_take (i := 21) (v := ?_) rfl (by kernel_rfl) (by kernel_rfl) (by kernel_rfl) (fun _ _ _ h => h) (Or.inl ⟨by rfl, ?_⟩) (by assumption) ?_
      rotate_left
      · intro w hSw
        go_simp
        try with_reducible rfl
      simp only [Act.put, List.getElem_toArray, List.getElem_cons_zero, List.getElem_cons_succ, List.setIfInBounds_toArray, List.set_cons_zero, List.set_cons_succ]
      refine wpAnyH_take (i := 22) (v := ?_) rfl (by kernel_rfl) (by kernel_rfl) (by kernel_rfl) (fun _ _ _ h => h) (Or.inl ⟨by rfl, ?_⟩) (by assumption) ?_
      rotate_left
      · intro w hSw
        go_simp
        try with_reducible rfl
      simp only [Act.put, List.getElem_toArray, List.getElem_cons_zero, List.getElem_cons_succ, List.setIfInBounds_toArray, List.set_cons_zero, List.set_cons_succ]
      refine wpAnyH_take (i := 23) (v := ?_) rfl (by kernel_rfl) (by kernel_rfl) (by kernel_rfl) (fun _ _ _ h => h) (Or.inl ⟨by rfl, ?_⟩) (by assumption) ?_
      rotate_left
      · intro w hSw
        go_simp
        try with_reducible rfl
      simp only [Act.put, List.getElem_toArray, List.getElem_cons_zero, List.getElem_cons_succ, List.setIfInBounds_toArray, List.set_cons_zero, List.set_cons_succ]
      refine wpAnyH_take (i := 24) (v := ?_) rfl (by kernel_rfl) (by kernel_rfl) (by kernel_rfl) (fun _ _ _ h => h) (Or.inl ⟨by rfl, ?_⟩) (by assumption) ?_
      rotate_left
      · intro w hSw
        go_simp
        try with_reducible rfl
      simp only [Act.put, List.getElem_toArray, List.getElem_cons_zero, List.getElem_cons_succ, List.setIfInBounds_toArray, List.set_cons_zero, List.set_cons_succ]
      refine wpAnyH_take (i := 25) (v := ?_) rfl (by kernel_rfl) (by kernel_rfl) (by kernel_rfl) (fun _ _ _ h => h) (Or.inl ⟨by rfl, ?_⟩) (by assumption) ?_
      rotate_left
      · intro w hSw
        go_simp
        try with_reducible rfl
      simp only [Act.put, List.getElem_toArray, List.getElem_cons_zero, List.getElem_cons_succ, List.setIfInBounds_toArray, List.set_cons_zero, List.set_cons_succ]
      refine wpAnyH_take (i := 26) (v := ?_) rfl (by kernel_rfl) (by kernel_rfl) (by kernel_rfl) (fun _ _ _ h => h) (Or.inl ⟨by rfl, ?_⟩) (by assumption) ?_
      rotate_left
      · intro w hSw
        go_simp
        try with_reducible rfl
      simp only [Act.put, List.getElem_toArray, List.getElem_cons_zero, List.getElem_cons_succ, List.setIfInBounds_toArray, List.set_cons_zero, List.set_cons_succ]
      refine wpAnyH_take (i := 27) (v := ?_) rfl (by kernel_rfl) (by kernel_rfl) (by kernel_rfl) (fun _ _ _ h => h) (Or.inl ⟨by rfl, ?_⟩) (by assumption) ?_
      rotate_left
      · intro w hSw
        go_simp
        try with_reducible rfl
      simp only [Act.put, List.getElem_toArray, List.getElem_cons_zero, List.getElem_cons_succ, List.setIfInBounds_toArray, List.set_cons_zero, List.set_cons_succ]
      refine wpAnyH_take (i := 28) (v := ?_) rfl (by kernel_rfl) (by kernel_rfl) (by kernel_rfl) (fun _ _ _ h => h) (Or.inl ⟨by rfl, ?_⟩) (by assumption) ?_
      rotate_left
      · intro w hSw
        go_simp
        try with_reducible rfl
      simp only [Act.put, List.getElem_toArray, List.getElem_cons_zero, List.getElem_cons_succ, List.setIfInBounds_toArray, List.set_cons_zero, List.set_cons_succ]
      refine wpAnyH_take (i := 29) (v := ?_) rfl (by kernel_rfl) (by kernel_rfl) (by kernel_rfl) (fun _ _ _ h => h) (Or.inl ⟨by rfl, ?_⟩) (by assumption) ?_
      rotate_left
      · intro w hSw
        go_simp
        try with_reducible rfl
      simp only [Act.put, List.getElem_toArray, List.getElem_cons_zero, List.getElem_cons_succ, List.setIfInBounds_toArray, List.set_cons_zero, List.set_cons_succ]
      refine wpAnyH_take (i := 30) (v := ?_) rfl (by kernel_rfl) (by kernel_rfl) (by kernel_rfl) (fun _ _ _ h => h) (Or.inl ⟨by rfl, ?_⟩) (by assumption) ?_
      rotate_left
      · intro w hSw
        go_simp
        try with_reducible rfl
      simp only [Act.put, List.getElem_toArray, List.getElem_cons_zero, List.getElem_cons_succ, List.setIfInBounds_toArray, List.set_cons_zero, List.set_cons_succ]
      refine wpAnyH_take (i := 31) (v := ?_) rfl (by kernel_rfl) (by kernel_rfl) (by kernel_rfl) (fun _ _ _ h => h) (Or.inl ⟨by rfl, ?_⟩) (by assumption) ?_
      rotate_left
      · intro w hSw
        go_simp
        try with_reducible rfl
      simp only [Act.put, List.getElem_toArray, List.getElem_cons_zero, List.getElem_cons_succ, List.setIfInBounds_toArray, List.set_cons_zero, List.set_cons_succ]
      refine wpAnyH_take (i := 32) (v := ?_) rfl (by kernel_rfl) (by kernel_rfl) (by kernel_rfl) (fun _ _ _ h => h) (Or.inl ⟨by rfl, ?_⟩) (by assumption) ?_
      rotate_left
      · intro w hSw
        go_simp
        try with_reducible rfl
      simp only [Act.put, List.getElem_toArray, List.getElem_cons_zero, List.getElem_cons_succ, List.setIfInBounds_toArray, List.set_cons_zero, List.set_cons_succ]
      refine wpAnyH_take (i := 33) (v := ?_) rfl (by kernel_rfl) (by kernel_rfl) (by kernel_rfl) (fun _ _ _ h => h) (Or.inl ⟨by rfl, ?_⟩) (by assumption) ?_
      rotate_left
      · intro w hSw
        go_simp
        try with_reducible rfl
      simp only [Act.put, List.getElem_toArray, List.getElem_cons_zero, List.getElem_cons_succ, List.setIfInBounds_toArray, List.set_cons_zero, List.set_cons_succ]
      refine wpAnyH_take (i := 34) (v := ?_) rfl (by kernel_rfl) (by kernel_rfl) (by kernel_rfl) (fun _ _ _ h => h) (Or.inl ⟨by rfl, ?_⟩) (by assumption) ?_
      rotate_left
      · intro w hSw
        go_simp
        try with_reducible rfl
      simp only [Act.put, List.getElem_toArray, List.getElem_cons_zero, List.getElem_cons_succ, List.setIfInBounds_toArray, List.set_cons_zero, List.set_cons_succ]
      refine wpAnyH_take (i := 35) (v := ?_) rfl (by kernel_rfl) (by kernel_rfl) (by kernel_rfl) (fun _ _ _ h => h) (Or.inl ⟨by rfl, ?_⟩) (by assumption) ?_
      rotate_left
      · intro w hSw
        go_simp
        try with_reducible rfl
      simp only [Act.put, List.getElem_toArray, List.getElem_cons_zero, List.getElem_cons_succ, List.setIfInBounds_toArray, List.set_cons_zero, List.set_cons_succ]
      refine wpAnyH_take (i := 36) (v := ?_) rfl (by kernel_rfl) (by kernel_rfl) (by kernel_rfl) (fun _ _ _ h => h) (Or.inl ⟨by rfl, ?_⟩) (by assumption) ?_
      rotate_left
      · intro w hSw
        go_simp
        try with_reducible rfl
      simp only [Act.put, List.getElem_toArray, List.getElem_cons_zero, List.getElem_cons_succ, List.setIfInBounds_toArray, List.set_cons_zero, List.set_cons_succ]
      refine wpAnyH_take (i := 37) (v := ?_) rfl (by kernel_rfl) (by kernel_rfl) (by kernel_rfl) (fun _ _ _ h => h) (Or.inl ⟨by rfl, ?_⟩) (by assumption) ?_
      rotate_left
      · intro w hSw
        go_simp
        try with_reducible rfl
      simp only [Act.put, List.getElem_toArray, List.getElem_cons_zero, List.getElem_cons_succ, List.setIfInBounds_toArray, List.set_cons_zero, List.set_cons_succ]
      refine wpAnyH_take (i := 38) (v := ?_) rfl (by kernel_rfl) (by kernel_rfl) (by kernel_rfl) (fun _ _ _ h => h) (Or.inl ⟨by rfl, ?_⟩) (by assumption) ?_
      rotate_left
      · intro w hSw
        go_simp
        try with_reducible rfl
      simp only [Act.put, List.getElem_toArray, List.getElem_cons_zero, List.getElem_cons_succ, List.setIfInBounds_toArray, List.set_cons_zero, List.set_cons_succ]
      refine wpAnyH_take (i := 39) (v := ?_) rfl (by kernel_rfl) (by kernel_rfl) (by kernel_rfl) (fun _ _ _ h => h) (Or.inl ⟨by rfl, ?_⟩) (by assumption) ?_
      rotate_left
      · intro w hSw
        go_simp
        try with_reducible rfl
      simp only [Act.put, List.getElem_toArray, List.getElem_cons_zero, List.getElem_cons_succ, List.setIfInBounds_toArray, List.set_cons_zero, List.set_cons_succ]
      refine wpAnyH_take (i := 40) (v := ?_) rfl (by kernel_rfl) (by kernel_rfl) (by kernel_rfl) (fun _ _ _ h => h) (Or.inl ⟨by rfl, ?_⟩) (by assumption) ?_
      rotate_left
      · intro w hSw
        go_simp
        try with_reducible rfl
      simp only [Act.put, List.getElem_toArray, List.getElem_cons_zero, List.getElem_cons_succ, List.setIfInBounds_toArray, List.set_cons_zero, List.set_cons_succ]
      refine wpAnyH_take (i := 41) (v := ?_) rfl (by kernel_rfl) (by kernel_rfl) (by kernel_rfl) (fun _ _ _ h => h) (Or.inl ⟨by rfl, ?_⟩) (by assumption) ?_
      rotate_left
      · intro w hSw
        go_simp
        try with_reducible rfl
      simp only [Act.put, List.getElem_toArray, List.getElem_cons_zero, List.getElem_cons_succ, List.setIfInBounds_toArray, List.set_cons_zero, List.set_cons_succ]
      refine wpAnyH_take (i := 42) (v := ?_) rfl (by kernel_rfl) (by kernel_rfl) (by kernel_rfl) (fun _ _ _ h => h) (Or.inl ⟨by rfl, ?_⟩) (by assumption) ?_
      rotate_left
      · intro w hSw
        go_simp
        try with_reducible rfl
      simp only [Act.put, List.getElem_toArray, List.getElem_cons_zero, List.getElem_cons_succ, List.setIfInBounds_toArray, List.set_cons_zero, List.set_cons_succ]
      refine wpAnyH_take (i := 43) (v := ?_) rfl (by kernel_rfl) (by kernel_rfl) (by kernel_rfl) (fun _ _ _ h => h) (Or.inl ⟨by rfl, ?_⟩) (by assumption) ?_
      rotate_left
      · intro w hSw
        go_simp
        try with_reducible rfl
      simp only [Act.put, List.getElem_toArray, List.getElem_cons_zero, List.getElem_cons_succ, List.setIfInBounds_toArray, List.set_cons_zero, List.set_cons_succ]
      refine wpAnyH_take (i := 44) (v := ?_) rfl (by kernel_rfl) (by kernel_rfl) (by kernel_rfl) (fun _ _ _ h => h) (Or.inl ⟨by rfl, ?_⟩) (by assumption) ?_
      rotate_left
      · intro w hSw
        go_simp
        try with_reducible rfl
      simp only [Act.put, List.getElem_toArray, List.getElem_cons_zero, List.getElem_cons_succ, List.setIfInBounds_toArray, List.set_cons_zero, List.set_cons_succ]
      refine wpAnyH_take (i := 45) (v := ?_) rfl (by kernel_rfl) (by kernel_rfl) (by kernel_rfl) (fun _ _ _ h => h) (Or.inl ⟨by rfl, ?_⟩) (by assumption) ?_
      rotate_left
      · intro w hSw
        go_simp
        try with_reducible rfl
      simp only [Act.put, List.getElem_toArray, List.getElem_cons_zero, List.getElem_cons_succ, List.setIfInBounds_toArray, List.set_cons_zero, List.set_cons_succ]
      refine wpAnyH_take (i := 46) (v := ?_) rfl (by kernel_rfl) (by kernel_rfl) (by kernel_rfl) (fun _ _ _ h => h) (Or.inl ⟨by rfl, ?_⟩) (by assumption) ?_
      rotate_left
      · intro w hSw
        go_simp
        try with_reducible rfl
      simp only [Act.put, List.getElem_toArray, List.getElem_cons_zero, List.getElem_cons_succ, List.setIfInBounds_toArray, List.set_cons_zero, List.set_cons_succ]
      refine wpAnyH_take (i := 47) (v := ?_) rfl (by kernel_rfl) (by kernel_rfl) (by kernel_rfl) (fun _ _ _ h => h) (Or.inl ⟨by rfl, ?_⟩) (by assumption) ?_
      rotate_left
      · intro w hSw
        go_simp
        try with_reducible rfl
      simp only [Act.put, List.getElem_toArray, List.getElem_cons_zero, List.getElem_cons_succ, List.setIfInBounds_toArray, List.set_cons_zero, List.set_cons_succ]
      refine wpAnyH_take (i := 48) (v := ?_) rfl (by kernel_rfl) (by kernel_rfl) (by kernel_rfl) (fun _ _ _ h => h) (Or.inl ⟨by rfl, ?_⟩) (by assumption) ?_
      rotate_left
      · intro w hSw
        go_simp
        try with_reducible rfl
      simp only [Act.put, List.getElem_toArray, List.getElem_cons_zero, List.getElem_cons_succ, List.setIfInBounds_toArray, List.set_cons_zero, List.set_cons_succ]
      refine wpAnyH_take (i := 49) (v := ?_) rfl (by kernel_rfl) (by kernel_rfl) (by kernel_rfl) (fun _ _ _ h => h) (Or.inl ⟨by rfl, ?_⟩) (by assumption) ?_
      rotate_left
      · intro w hSw
        go_simp
        try with_reducible rfl
      simp only [Act.put, List.getElem_toArray, List.getElem_cons_zero, List.getElem_cons_succ, List.setIfInBounds_toArray, List.set_cons_zero, List.set_cons_succ]
      refine wpAnyH_done (by kernel_rfl) ?_ _
      clear hHeld
      go_wp2
      go_roundw
      case rel => exact ⟨j + 1, by go_num, by omega, HB.out.drew⟩
      case measure => simp [intOf]; omega
    · as_aux_lemma =>
      have hjl : j = bs.length := by omega
      replace MT := aside (MT.out.on HB.out)
      have CH := aside (held13_any MT.out.ms.a OKA.out.2)
      obtain ⟨u0, u1⟩ := two_cells MT.out.ms.pa
      go_wp2_with fail
      refine CH.out.mono ?_
      rintro e w22 ⟨v, rfl, o, bb⟩
      obtain ⟨av, cv, rfl, -⟩ := own_slice o
      replace MT := aside (MT.out.on bb)
      clear o bb CH u0 u1
      have hw1 : IntKind.i64.wrap ((sA.l.length : Int) - (bs.length : Int)) = ((len : Int) - ((inL r l).length : Int)) := by rw [IntKind.wrap_i64]; have h1 := NOA.out; have h2 := LEA.out; have h3 := HLl.out; have h4 := inL_len r l; have h5 := OKA.out.2; omega
      have hw2 : IntKind.i64.wrap ((len : Int) - ((inL r l).length : Int)) = ((len : Int) - ((inL r l).length : Int)) := by rw [IntKind.wrap_i64]; have h3 := HLl.out; have h4 := inL_len r l; have h5 := Hl.out.2; omega
      have CH := aside (held13_any MT.out.ms.b OKB.out.2)
      obtain ⟨u0, u1⟩ := two_cells MT.out.ms.pb
      go_wp2_with fail
      refine CH.out.mono ?_
      rintro e w23 ⟨v, rfl, o, bb⟩
      obtain ⟨bv, dv, rfl, -⟩ := own_slice o
      replace MT := aside (MT.out.on bb)
      clear o bb CH u0 u1
      have hw3 : IntKind.i64.wrap ((sB.l.length : Int) - (qs.length : Int)) = ((len2 : Int) - ((inL r m).length : Int)) := by rw [IntKind.wrap_i64]; have h1 := NOB.out; have h2 := LEB.out; have h3 := HLm.out; have h4 := inL_len r m; have h5 := OKB.out.2; omega
      have hw4 : IntKind.i64.wrap ((len2 : Int) - ((inL r m).length : Int)) = ((len2 : Int) - ((inL r m).length : Int)) := by rw [IntKind.wrap_i64]; have h3 := HLm.out; have h4 := inL_len r m; have h5 := Hm.out.2; omega
      go_wp2
      go_ret
      exact ⟨rfl, MT.out.ms.bel⟩
end Go.Proofs.YtoflalflacopdaaDoor

/-
  Compare of the document.
-/
import Derived.Test.YtpbkjffiohfkcaaGreatDoorBt32
import Derived.Test.YtpbkjffiohfkcaaGreatDoorBt33
import Derived.Test.YtpbkjffiohfkcaaGreatDoorBt34
import Derived.Test.YtpbkjffiohfkcaaGreatDoorBt31
import Derived.Test.YtpbkjffiohfkcaaGreatDoorBt15
import Derived.Test.YtpbkjffiohfkcaaGreatDoorBt16
import Derived.Test.YtpbkjffiohfkcaaGreatDoorBt20
import Derived.Test.YtpbkjffiohfkcaaGreatDoorBt22
import Derived.Test.YtpbkjffiohfkcaaGreatDoorBt25
import Derived.Test.YtpbkjffiohfkcaaGreatDoorBt17
import Derived.Test.YtpbkjffiohfkcaaGreatDoorBt30
import Derived.Test.YtpbkjffiohfkcaaGreatDoorBt24
import Derived.Deep.Cut
namespace Go.Proofs.YtpbkjffiohfkcaaGreatDoor
open Go.RowKit
set_option linter.unusedVariables false
set_option maxHeartbeats 3200000 in
set_option maxRecDepth 100000 in
theorem inbR_any (b l : Int) (w : World) : Calls Tryz.prog 34 #[.int .i64 b, .int .i64 l] w fun e w' => e = .returned (.bool (inB b l)) ∧ Below w.heap.size w w' := by
 by_cases h1 : 2 ≤ b
 ·by_cases h2 : b ≤ 16
  ·by_cases h3 : 1 ≤ l
   ·by_cases h4 : l ≤ 32
    ·rw [show inB b l = true from by unfold inB; simp; omega]
     go_enter Tryz.func34, Tryz.ntmps34
     go_wp2
     go_ret
     exact ⟨rfl, Below.refl _ _⟩
    ·rw [show inB b l = false from by unfold inB; simp; omega]
     go_enter Tryz.func34, Tryz.ntmps34
     go_wp2
     go_ret
     exact ⟨rfl, Below.refl _ _⟩
   ·rw [show inB b l = false from by unfold inB; simp; omega]
    go_enter Tryz.func34, Tryz.ntmps34
    go_wp2
    go_ret
    exact ⟨rfl, Below.refl _ _⟩
  ·rw [show inB b l = false from by unfold inB; simp; omega]
   go_enter Tryz.func34, Tryz.ntmps34
   go_wp2
   go_ret
   exact ⟨rfl, Below.refl _ _⟩
 ·rw [show inB b l = false from by unfold inB; simp; omega]
  go_enter Tryz.func34, Tryz.ntmps34
  go_wp2
  go_ret
  exact ⟨rfl, Below.refl _ _⟩
set_option maxHeartbeats 3200000 in
set_option maxRecDepth 100000 in
theorem oneQ_any (p : Pm) (w : World) (h : p.In w) :
    Calls Tryz.prog 38 #[.agg #[.int .i64 p.kind, .string p.lo, .string p.hi, .bool p.op, .int .i64 p.cnt, .int .u64 p.s0, .int .u64 p.s1, .slice p.ea p.el p.ec]] w fun e w' => ∃ g c, e = .returned (.slice (some ⟨g, 0, none⟩) 1 c) ∧ w'.ownsRow w.heap.size 47 8 (.slice (some ⟨g, 0, none⟩) 1 c) 1 (ptCells [p]) ∧ Below w.heap.size w w' := by
 have B0 := aside (bnew w (.cells #[.int .i64 p.kind, .string p.lo, .string p.hi, .bool p.op, .int .i64 p.cnt, .int .u64 p.s0, .int .u64 p.s1, .slice p.ea p.el p.ec] 47))
 have K0 := aside (heap_alloc_new w (.cells #[.int .i64 p.kind, .string p.lo, .string p.hi, .bool p.op, .int .i64 p.cnt, .int .u64 p.s0, .int .u64 p.s1, .slice p.ea p.el p.ec] 47))
 have HP := aside h
 clear h
 obtain ⟨w0, hw0⟩ : ∃ w0, w.alloc (.cells #[.int .i64 p.kind, .string p.lo, .string p.hi, .bool p.op, .int .i64 p.cnt, .int .u64 p.s0, .int .u64 p.s1, .slice p.ea p.el p.ec] 47) = w0 := ⟨_, rfl⟩
 rw [hw0] at B0 K0
 have OE := aside (ownP_empty w0 w.heap.size B0.out.size)
 have KE := aside (blk_on K0.out (bnew w0 (.cells #[] 47)))
 have BE := aside (bthen B0.out (bnew w0 (.cells #[] 47)))
 clear K0
 obtain ⟨w1, hw1⟩ : ∃ w1, w0.alloc (.cells #[] 47) = w1 := ⟨_, rfl⟩
 rw [hw1] at OE KE BE
 obtain ⟨p0, p1, p2, p3, p4, p5, p6, p7⟩ := oct KE.out
 have PI := aside (show PartsIn (w1.alloc (.cells #[.int .i64 p.kind, .string p.lo, .string p.hi, .bool p.op, .int .i64 p.cnt, .int .u64 p.s0, .int .u64 p.s1, .slice p.ea p.el p.ec] 47)) (some ⟨w1.heap.size, 0, none⟩) 1 1 (fun _ => p) from ⟨Nat.le_refl _, by unfold maxLen; omega, .inr ⟨w1.heap.size, 0, rfl, by simp, fun i hi => ⟨by
  obtain rfl : i = 0 := by omega
  exact oct (heap_alloc_new w1 (.cells #[.int .i64 p.kind, .string p.lo, .string p.hi, .bool p.op, .int .i64 p.cnt, .int .u64 p.s0, .int .u64 p.s1, .slice p.ea p.el p.ec] 47)), HP.out.keep (bthen BE.out (bnew w1 _))⟩⟩⟩)
 go_enter Tryz.func38, Tryz.ntmps38
 go_wp2_with (at_builtin; go_loud (refine wpList_plain rfl fun K hK => op_append_parts (V := w) _ _ rfl 0 _ [] (by rfl) (OE.out.alloc _) ⟨w1.heap.size, 0, none⟩ 1 1 (fun _ => p) (by rfl) PI.out (by omega) (bthen BE.out (bnew w1 _)) ?_); intro v4 w4 own4 b4 gr4; refine hK _ _ ?_; refine Hid.out ?_)
 refine aside ?_
 rw [show ([] : List Pm) ++ firstP (fun _ => p) 1 = firstP (fun _ => p) 1 from rfl] at own4
 rcases own4.2 with ⟨_, h9⟩ | ⟨g, cap, cur, rfl, h2, h3⟩
 ·omega
 have O4 := aside own4
 have B4 := aside b4
 have HG := aside h2
 clear own4 b4 gr4 h2 h3 p0 p1 p2 p3 p4 p5 p6 p7
 go_wp2
 go_ret
 exact ⟨g, cap, rfl, O4.out, B4.out⟩
set_option maxHeartbeats 8000000 in
set_option maxRecDepth 100000 in
theorem rcmp_any (b lf : Int) (p : Pm) {w : World} {B db : Nat} {nd ck : Int} {l : List En} (h : DSt w B db nd ck l) (hm : MapL l) (hl : l.length ≤ 256) (hP : p.In w) :
    Calls Tryz.prog 24 #[.pointer (some ⟨db, 0, none⟩), .int .i64 b, .int .i64 lf, .agg #[.int .i64 p.kind, .string p.lo, .string p.hi, .bool p.op, .int .i64 p.cnt, .int .u64 p.s0, .int .u64 p.s1, .slice p.ea p.el p.ec]] w fun r w' => (cErr b lf p ≠ 0 ∧ r = .returned (.tuple #[.slice none 0 0, .int .i64 (cErr b lf p)]) ∧ Below w.heap.size w w') ∨ (cErr b lf p = 0 ∧ ∃ v, r = .returned (.tuple #[v, .int .i64 0]) ∧ Told w.heap.size v (cmpQ b lf p.rg p.cnt p.s0 p.s1 l) w' ∧ Below w.heap.size w w') := by
 have BX := aside (bnew w (.cells #[.int .i64 p.kind, .string p.lo, .string p.hi, .bool p.op, .int .i64 p.cnt, .int .u64 p.s0, .int .u64 p.s1, .slice p.ea p.el p.ec] 47))
 have KX := aside (heap_alloc_new w (.cells #[.int .i64 p.kind, .string p.lo, .string p.hi, .bool p.op, .int .i64 p.cnt, .int .u64 p.s0, .int .u64 p.s1, .slice p.ea p.el p.ec] 47))
 obtain ⟨pb, hpb⟩ : ∃ pb, w.heap.size = pb := ⟨_, rfl⟩
 have HPB := aside hpb
 rw [hpb] at KX
 obtain ⟨X, hX⟩ : ∃ X, w.alloc (.cells #[.int .i64 p.kind, .string p.lo, .string p.hi, .bool p.op, .int .i64 p.cnt, .int .u64 p.s0, .int .u64 p.s1, .slice p.ea p.el p.ec] 47) = X := ⟨_, rfl⟩
 rw [hX] at BX KX
 have CI := aside (fun W => inbR_any b lf W)
 have H := aside h
 have HM := aside hm
 have HL := aside hl
 have HP := aside hP
 obtain ⟨q, hq⟩ : ∃ q, psChk (fun _ => p) 1 = q := ⟨_, rfl⟩
 have HPS := aside hq
 have HCE := aside (show cErr b lf p = if inB b lf = false then 1 else if q ≠ 0 then q else if p.kind = 1 then 0 else 114 from by unfold cErr; rw [hq])
 clear h hm hl hP hq
 cases hI : inB b lf
 ·rw [hI] at CI
  have HE := aside (show cErr b lf p = 1 from by rw [HCE.out, if_pos hI])
  go_enter Tryz.func24, Tryz.ntmps24
  go_wp2_with fail
  refine (CI.out _).mono ?_
  rintro e w1 ⟨rfl, b1⟩
  have B1 := aside (bthen BX.out b1)
  clear b1 CI
  go_wp2
  go_ret2
  exact .inl ⟨by rw [HE.out]; decide, by rw [HE.out] <;> rfl, B1.out⟩
 ·rw [hI] at CI
  have HCE2 := aside (show cErr b lf p = if q ≠ 0 then q else if p.kind = 1 then 0 else 114 from by rw [HCE.out, if_neg (by rw [hI]; simp)])
  have HI := aside hI
  clear HCE hI
  go_enter Tryz.func24, Tryz.ntmps24
  go_wp2_with fail
  refine (CI.out _).mono ?_
  rintro e w1 ⟨rfl, b1⟩
  have B1 := aside (bthen BX.out b1)
  have K1 := aside (blk_on KX.out b1)
  clear b1 CI KX BX
  have CO := aside (oneR_any p w1 (HP.out.keep B1.out))
  obtain ⟨p0, p1, p2, p3, p4, p5, p6, p7⟩ := oct K1.out
  go_wp2_with fail
  refine CO.out.mono ?_
  rintro e w2 ⟨g2, c2, rfl, pi2, -, b2⟩
  have C2 := aside (partsR_any _ 1 c2 _ w2 pi2)
  rw [HPS.out] at C2
  have B2 := aside (bthen B1.out b2)
  have K2 := aside (blk_on K1.out b2)
  clear CO p0 p1 p2 p3 p4 p5 p6 p7 pi2 b2 B1 K1
  go_wp2_with fail
  refine C2.out.mono ?_
  rintro e w3 ⟨rfl, b3⟩
  have B3 := aside (bthen B2.out b3)
  have K3 := aside (blk_on K2.out b3)
  clear b3 C2 B2 K2
  by_cases hq0 : q = 0
  rotate_left
  ·have hqb : (q == 0) = false := by simpa using hq0
   have HE := aside (show cErr b lf p = q from by rw [HCE2.out, if_pos hq0])
   have HQ := aside hq0
   go_wp2
   go_ret2
   exact .inl ⟨by rw [HE.out]; exact HQ.out, by rw [HE.out] <;> rfl, B3.out⟩
  subst hq0
  obtain ⟨p0, p1, p2, p3, p4, p5, p6, p7⟩ := oct K3.out
  by_cases hk : p.kind = 1
  rotate_left
  ·have hkb : (p.kind == 1) = false := by simpa using hk
   have HE := aside (show cErr b lf p = 114 from by rw [HCE2.out, if_neg (by simp), if_neg hk])
   go_wp2
   go_ret2
   exact .inl ⟨by rw [HE.out]; decide, by rw [HE.out] <;> rfl, B3.out⟩
  have hkb : (p.kind == 1) = true := by simpa using hk
  have HC0 := aside (show cErr b lf p = 0 from by rw [HCE2.out, if_neg (by simp), if_pos hk])
  have HRC := aside (cErr_ok HC0.out).2.2.2
  clear hk HCE2
  have CF := aside (rfoldS p.lo p.hi p.op (H.out.below B3.out) HM.out (by have := HL.out; omega))
  have HFN := aside (show (foldV p.lo p.hi p.op l).n = ((keysIn p.rg l).length : Int) from fold_n (r := p.rg) HRC.out (by have := HL.out; omega))
  have HT1 := aside (fun hh => cmpQ_same (b := b) (lf := lf) (r := p.rg) (cnt := p.cnt) (s0 := p.s0) (s1 := p.s1) (Ls := l) hh)
  have HT2 := aside (fun hh h2 => cmpQ_items (b := b) (lf := lf) (r := p.rg) (cnt := p.cnt) (s0 := p.s0) (s1 := p.s1) (Ls := l) hh h2)
  have HT3 := aside (fun hh h2 => cmpQ_split (b := b) (lf := lf) (r := p.rg) (cnt := p.cnt) (s0 := p.s0) (s1 := p.s1) (Ls := l) hh h2)
  rw [show foldV p.rg.lo p.rg.hi p.rg.op l = foldV p.lo p.hi p.op l from rfl] at HT1 HT2 HT3
  generalize foldV p.lo p.hi p.op l = t at *
  unfold tlV at CF
  go_wp2_with fail
  refine CF.out.mono ?_
  rintro e w4 ⟨rfl, b4⟩
  have NB := bnew w4 (.cells #[.int .i64 t.n, .int .u64 t.a, .int .u64 t.b] 45)
  have B4 := aside (bthen B3.out (bthen b4 NB))
  have K4 := aside (blk_on (blk_on K3.out b4) NB)
  have KT := aside (heap_alloc_new w4 (.cells #[.int .i64 t.n, .int .u64 t.a, .int .u64 t.b] 45))
  clear b4 NB CF p0 p1 p2 p3 p4 p5 p6 p7 hkb B3 K3
  obtain ⟨tb, htb⟩ : ∃ tb, w4.heap.size = tb := ⟨_, rfl⟩
  rw [htb] at KT
  obtain ⟨Y, hY⟩ : ∃ Y, w4.alloc (.cells #[.int .i64 t.n, .int .u64 t.a, .int .u64 t.b] 45) = Y := ⟨_, rfl⟩
  rw [hY] at KT B4 K4
  obtain ⟨p0, p1, p2, p3, p4, p5, p6, p7⟩ := oct K4.out
  obtain ⟨t0, t1, t2⟩ := box3r KT.out
  have SQ : ∀ W, (binOp .eql 45 (.agg #[.int .i64 t.n, .int .u64 t.a, .int .u64 t.b]) (.agg #[.int .i64 p.cnt, .int .u64 p.s0, .int .u64 p.s1])).run Tryz.prog W = .ok (.bool (decide (t.n = p.cnt ∧ t.a = p.s0 ∧ t.b = p.s1))) W := fun W => by rw [tal_run, tal_eqB]
  by_cases hs : t.n = p.cnt ∧ t.a = p.s0 ∧ t.b = p.s1
  ·have HTT := aside (HT1.out hs)
   rw [decide_eq_true hs] at SQ
   clear hs
   go_wp2
   go_ret2
   exact .inr ⟨HC0.out, _, rfl, by rw [HTT.out]; exact Told.zero _ _, B4.out⟩
  rw [decide_eq_false hs] at SQ
  by_cases hle : t.n ≤ lf
  ·have HTT := aside (HT2.out hs hle)
   have CA := aside (rallS p.lo p.hi p.op (H.out.below B4.out) HM.out (by have := HL.out; omega))
   rw [show Rg.chk ⟨p.lo, p.hi, p.op⟩ = 0 from HRC.out, outL_ok _ rfl, ← thru_inL HRC.out HM.out] at CA
   rw [show thruL p.rg.lo p.rg.hi p.rg.op true l = thruL p.lo p.hi p.op true l from rfl] at HTT
   have HMT := aside (thru_map (lo := p.lo) (hi := p.hi) (op := p.op) HM.out)
   generalize thruL p.lo p.hi p.op true l = m at *
   go_wp2_with fail
   refine CA.out.mono ?_
   rintro e w5 ⟨b5, v5, rfl, o5⟩
   obtain ⟨a5, c5, rfl, hE5⟩ := own_ents o5 (fun e he => key_small (HMT.out.chk e he))
   have C6 := aside (oneQ_any (⟨2, p.lo, p.hi, p.op, 0, 0, 0, a5, m.length, c5, nthE m⟩ : Pm) w5 hE5)
   have B5 := aside (bthen B4.out b5)
   have K5 := aside (blk_on K4.out b5)
   have O5 := aside (own_low o5 B4.out.size)
   clear b5 o5 hE5 CA B4 K4 p0 p1 p2 p3 p4 p5 p6 p7 t0 t1 t2 KT SQ
   obtain ⟨p0, p1, p2, p3, p4, p5, p6, p7⟩ := oct K5.out
   go_wp2_with fail
   refine C6.out.mono ?_
   rintro e w6 ⟨g6, c6, rfl, o6, b6⟩
   have B6 := aside (bthen B5.out b6)
   have O6 := aside (own_low o6 B5.out.size)
   have E6 := aside (own_on O5.out b6)
   clear b6 o6 C6 p0 p1 p2 p3 p4 p5 p6 p7
   go_wp2
   go_ret2
   refine .inr ⟨HC0.out, _, rfl, ?_, B6.out⟩
   rw [HTT.out]
   refine ⟨[(⟨2, p.lo, p.hi, p.op, 0, 0, 0, a5, m.length, c5, nthE m⟩ : Pm)], O6.out, rfl, fun i mm qq e1 e2 => ?_⟩
   match i, e1, e2 with
   | 0, e1, e2 =>
    simp at e1 e2
    subst e1 e2
    exact ⟨rfl, E6.out⟩
   | i + 1, e1, e2 => simp at e1
  ·have HTT := aside (HT3.out hs (by first | exact hle | omega))
   obtain ⟨q, hq1, hq2, hq3⟩ := min_cut HI.out hle
   rw [hq2] at HTT
   have HQK := aside (show q + 1 ≤ (keysIn p.rg l).length from by have := HFN.out; omega)
   have CS := aside (rsplit_ok p.rg q (H.out.below B4.out) HM.out HL.out HRC.out HQK.out)
   have HQ6 := aside (show q + 1 ≤ 256 from Nat.le_trans HQK.out (Nat.le_trans (keysIn_le _ _) HL.out))
   have CPR := aside (fun (W : World) (j : Nat) (hj : j < q + 1) (bb : Below w.heap.size w W) => by
    have h9 := rprint_any (cutR p.rg l q j).lo (cutR p.rg l q j).hi (cutR p.rg l q j).op (H.out.below bb) HM.out (by have := HL.out; omega)
    rw [show prErr ⟨(cutR p.rg l q j).lo, (cutR p.rg l q j).hi, (cutR p.rg l q j).op⟩ = 0 from cut_ok HM.out HRC.out HQK.out hj] at h9
    exact h9)
   have CS2 := aside (show Calls Tryz.prog 45 #[.pointer (some ⟨db, 0, none⟩), .agg #[.string p.lo, .string p.hi, .bool p.op], .int .i64 ((q : Int) + 1)] Y _ from CS.out)
   have hbn : ¬ b < t.n → t.n = (q : Int) + 1 := fun hh => by omega
   have hbp : b < t.n → b = (q : Int) + 1 := fun hh => by omega
   clear CS
   have hq4 : ((q : Int) + 1).toNat = q + 1 := by omega
   clear hs
   go_wp2_with fail
   all_goals (first | rw [show t.n = (q : Int) + 1 from by omega] | rw [show b = (q : Int) + 1 from by omega])
   all_goals refine CS2.out.mono ?_
   all_goals
    rintro e w5 ⟨g5, c5, rfl, o5, b5⟩
    have OE := aside (ownP_empty w5 w.heap.size (bthen B4.out b5).size)
    have B5 := aside (bthen B4.out (bthen b5 (bnew w5 (.cells #[] 47))))
    have R5 := aside (own_on (own_low o5 B4.out.size) (bnew w5 (.cells #[] 47)))
    clear o5 b5 CS2 KT K4 B4 p0 p1 p2 p3 p4 p5 p6 p7 t0 t1 t2
    obtain ⟨Z, hZ⟩ : ∃ Z, w5.alloc (.cells #[] 47) = Z := ⟨_, rfl⟩
    rw [hZ] at OE B5 R5
    have hc5 := (row_max R5.out).1
    go_wp2
    go_loopw [17, 18] (fun v i wr => ∃ j : Nat, i = .int .i64 (j : Int) ∧ j ≤ q + 1 ∧ Hid (wr.ownsRow w.heap.size 47 8 v j (ptCells (firstP (cutP p.rg l q) j))) ∧ Hid (wr.ownsRow w.heap.size 40 3 (.slice (some ⟨g5, 0, none⟩) (q + 1) c5) (q + 1) (rgCells (cutR p.rg l q) (q + 1))) ∧ Hid (Below w.heap.size w wr)) (fun v i _ => q + 1 - (intOf i).toNat)
    case atStart => exact ⟨0, rfl, Nat.zero_le _, OE, R5, B5⟩
    case round =>
     obtain ⟨j, rfl, hj, HO, HR, HB⟩ := hrel
     clear OE R5 B5
     obtain ⟨a9, c9, rfl, -, -, -⟩ := own_slice HO.out
     by_cases hlt : (j : Int) < (q : Int) + 1
     ·have hj0 : (0 : Int) ≤ (j : Int) := by omega
      have hjq : j < q + 1 := by omega
      obtain ⟨c0, c1, c2⟩ := rgCells_at (cutR p.rg l q) (q + 1) j hjq
      have d0 := HR.out.cellAt (j * 3) (by have := rgCells_length (cutR p.rg l q) (q + 1); omega)
      have d1 := HR.out.cellAt (j * 3 + 1) (by have := rgCells_length (cutR p.rg l q) (q + 1); omega)
      have d2 := HR.out.cellAt (j * 3 + 2) (by have := rgCells_length (cutR p.rg l q) (q + 1); omega)
      rw [c0] at d0
      rw [c1] at d1
      rw [c2] at d2
      have C3 := aside (CPR.out wr j hjq HB.out)
      obtain ⟨r3, hr3⟩ : ∃ r3, cutR p.rg l q j = r3 := ⟨_, rfl⟩
      have HR3 := aside hr3
      rw [hr3] at d0 d1 d2 C3
      unfold prV at C3
      rw [if_pos rfl] at C3
      clear c0 c1 c2 hr3
      go_wp2_with fail
      refine C3.out.mono ?_
      rintro e w6 ⟨rfl, b6⟩
      have BN := bthen b6 (bthen (bnew w6 (.cells #[.int .i64 1, .string r3.lo, .string r3.hi, .bool r3.op, .int .i64 (foldV r3.lo r3.hi r3.op l).n, .int .u64 (foldV r3.lo r3.hi r3.op l).a, .int .u64 (foldV r3.lo r3.hi r3.op l).b, .slice none 0 0] 47)) (bnew _ (.cells #[.int .i64 1, .string r3.lo, .string r3.hi, .bool r3.op, .int .i64 (foldV r3.lo r3.hi r3.op l).n, .int .u64 (foldV r3.lo r3.hi r3.op l).a, .int .u64 (foldV r3.lo r3.hi r3.op l).b, .slice none 0 0] 47)))
      have O6 := aside (own_on HO.out BN)
      have R6 := aside (own_on HR.out BN)
      have B6 := aside (bthen HB.out BN)
      have KS0 := heap_alloc_new (w6.alloc (.cells #[.int .i64 1, .string r3.lo, .string r3.hi, .bool r3.op, .int .i64 (foldV r3.lo r3.hi r3.op l).n, .int .u64 (foldV r3.lo r3.hi r3.op l).a, .int .u64 (foldV r3.lo r3.hi r3.op l).b, .slice none 0 0] 47)) (.cells #[.int .i64 1, .string r3.lo, .string r3.hi, .bool r3.op, .int .i64 (foldV r3.lo r3.hi r3.op l).n, .int .u64 (foldV r3.lo r3.hi r3.op l).a, .int .u64 (foldV r3.lo r3.hi r3.op l).b, .slice none 0 0] 47)
      have PI := aside (show PartsIn ((w6.alloc (.cells #[.int .i64 1, .string r3.lo, .string r3.hi, .bool r3.op, .int .i64 (foldV r3.lo r3.hi r3.op l).n, .int .u64 (foldV r3.lo r3.hi r3.op l).a, .int .u64 (foldV r3.lo r3.hi r3.op l).b, .slice none 0 0] 47)).alloc (.cells #[.int .i64 1, .string r3.lo, .string r3.hi, .bool r3.op, .int .i64 (foldV r3.lo r3.hi r3.op l).n, .int .u64 (foldV r3.lo r3.hi r3.op l).a, .int .u64 (foldV r3.lo r3.hi r3.op l).b, .slice none 0 0] 47)) (some ⟨w6.heap.size + 1, 0, none⟩) 1 1 (fun _ => (prQ l r3).pm none 0) from ⟨Nat.le_refl _, by unfold maxLen; omega, .inr ⟨w6.heap.size + 1, 0, rfl, by simp, fun i hi => ⟨by
       obtain rfl : i = 0 := by omega
       rw [World.size_alloc] at KS0
       exact oct (p := (prQ l r3).pm none 0) KS0, ⟨Nat.le_refl _, Nat.zero_le _, .inl rfl⟩⟩⟩⟩)
      have HCP := aside (show firstP (cutP p.rg l q) j ++ firstP (fun _ => (prQ l r3).pm none 0) 1 = firstP (cutP p.rg l q) (j + 1) from by rw [← firstP_snoc (cutP p.rg l q) j, show cutP p.rg l q j = (prQ l r3).pm none 0 from by unfold cutP; rw [HR3.out]]; rfl)
      have HSZ := aside B6.out.size
      have hwr : IntKind.i64.wrap ((j : Int) + 1) = (((j + 1 : Nat)) : Int) := by rw [IntKind.wrap_i64]; have := HQ6.out; omega
      clear KS0 BN b6 C3 HO HR HB d0 d1 d2
      go_wp2_with (at_builtin; go_loud (refine wpList_plain rfl fun K hK => op_append_partsG (B := w.heap.size) _ _ rfl j _ (firstP (cutP p.rg l q) j) (by rfl) O6.out ⟨w6.heap.size + 1, 0, none⟩ 1 1 (fun _ => (prQ l r3).pm none 0) (by rfl) PI.out (by have := HQ6.out; omega) HSZ.out ?_); intro v7 w7 own7 gr7; refine hK _ _ ?_; refine Hid.out ?_)
      refine aside ?_
      rw [HCP.out] at own7
      have O7 := aside own7
      have R7 := aside (own_grownP O6.out gr7 R6.out (by decide))
      have B7 := aside (B6.out.grown gr7 B6.out.size (fun k e => (O6.out.lt k e).1))
      clear own7 gr7 O6 R6 B6 PI HCP HSZ
      go_wp2
      go_roundw
      case rel => exact ⟨j + 1, by go_num, by omega, O7, R7, B7⟩
      case measure => simp [intOf]; omega
     ·obtain rfl : j = q + 1 := by omega
      go_wp2
      go_ret2
      refine .inr ⟨HC0.out, _, rfl, ?_, by first | exact HB.out | (rw [← HPB.out]; exact HB.out)⟩
      rw [HTT.out]
      first | exact cut_told HO.out | (rw [← HPB.out]; exact cut_told HO.out)
end Go.Proofs.YtpbkjffiohfkcaaGreatDoor

/-
  The law MatchTiles, walked for every argument.
-/
import Derived.Test.YtpbkjffiohfkcaaGreatDoorBt1
import Derived.Test.YtpbkjffiohfkcaaGreatDoorBt36
import Derived.Test.YtpbkjffiohfkcaaGreatDoorBt25
import Derived.Test.YtpbkjffiohfkcaaGreatDoorBt31
import Derived.Test.YtpbkjffiohfkcaaGreatDoorBt16
import Derived.Test.YtpbkjffiohfkcaaGreatDoorBt22
import Derived.Deep.Cut
import Derived.Test.YtpbkjffiohfkcaaGreatDoorBt15
import Derived.Test.YtpbkjffiohfkcaaGreatDoorBt20
import Derived.Test.YtpbkjffiohfkcaaGreatDoorBt17
import Derived.Test.YtpbkjffiohfkcaaGreatDoorBt30
import Derived.Test.YtpbkjffiohfkcaaGreatDoorBt24
import Derived.Deep.CutBlock
namespace Go.Proofs.YtpbkjffiohfkcaaGreatDoor
open Go.RowKit
set_option linter.unusedVariables false
set_option maxHeartbeats 12800000 in
set_option maxRecDepth 100000 in
theorem tilesLaw_any (a : Option Addr) (len cap : Nat) (T : Nat → En) (p : Pm) (b lf : Int) (w : World) (h : EntsIn w a len cap T) (hform : (a = none ∧ len = 0 ∧ cap = 0) ∨ ∃ y, a = some y) (hP : p.In w) (hz : p.el ≤ 4611686018427387904) (L : Lanes w) :
    Calls Tryz.prog 7 #[.slice a len cap, .agg #[.int .i64 p.kind, .string p.lo, .string p.hi, .bool p.op, .int .i64 p.cnt, .int .u64 p.s0, .int .u64 p.s1, .slice p.ea p.el p.ec], .int .i64 b, .int .i64 lf] w fun e w' => e = .returned (.bool true) ∧ Below w.heap.size w w' := by
 have HE := aside h
 have HF := aside hform
 have LL := aside L
 have HP := aside hP
 have HZ := aside hz
 clear h hform L hP hz
 have B0 := aside (bnew w (.cells #[.int .i64 p.kind, .string p.lo, .string p.hi, .bool p.op, .int .i64 p.cnt, .int .u64 p.s0, .int .u64 p.s1, .slice p.ea p.el p.ec] 47))
 have K0 := aside (heap_alloc_new w (.cells #[.int .i64 p.kind, .string p.lo, .string p.hi, .bool p.op, .int .i64 p.cnt, .int .u64 p.s0, .int .u64 p.s1, .slice p.ea p.el p.ec] 47))
 obtain ⟨qb, hqb⟩ : ∃ qb, w.heap.size = qb := ⟨_, rfl⟩
 rw [hqb] at K0
 obtain ⟨w0, hw0⟩ : ∃ w0, w.alloc (.cells #[.int .i64 p.kind, .string p.lo, .string p.hi, .bool p.op, .int .i64 p.cnt, .int .u64 p.s0, .int .u64 p.s1, .slice p.ea p.el p.ec] 47) = w0 := ⟨_, rfl⟩
 rw [hw0] at B0 K0
 obtain ⟨p0, p1, p2, p3, p4, p5, p6, p7⟩ := oct K0.out
 have C1 := aside (one_any p w0 (HP.out.keep B0.out))
 go_enter Tryz.func7, Tryz.ntmps7
 go_wp2_with fail
 refine C1.out.mono ?_
 rintro e w1 ⟨g1, c1, rfl, pi1, -, b1⟩
 have PI1 := aside (pi1.keep (bnew w1 (.cells #[.slice a len cap] 22)))
 have BN := aside (bthen b1 (bnew w1 (.cells #[.slice a len cap] 22)))
 have B1 := aside (bthen B0.out BN.out)
 have K1 := aside (blk_on K0.out BN.out)
 have LI := aside (show ListsIn (w1.alloc (.cells #[.slice a len cap] 22)) w1.heap.size 1 (fun _ => a) (fun _ => len) (fun _ => cap) (fun _ => T) from fun k hk => by
  obtain rfl : k = 0 := by omega
  exact ⟨cell_one (heap_alloc_new w1 (.cells #[.slice a len cap] 22)), HE.out.keep B1.out⟩)
 clear b1 pi1 C1 B0 K0 BN p0 p1 p2 p3 p4 p5 p6 p7
 obtain ⟨w2, hw2⟩ : ∃ w2, w1.alloc (.cells #[.slice a len cap] 22) = w2 := ⟨_, rfl⟩
 rw [hw2] at PI1 B1 K1 LI
 have C2 := aside (beyond13_any (some ⟨g1, 0, none⟩) 1 c1 (fun _ => p) w1.heap.size 1 1 _ _ _ _ w2 (by omega) LI.out PI1.out)
 go_wp2_with fail
 refine C2.out.mono ?_
 rintro e w3 ⟨q, rfl, -, b3⟩
 have B3 := aside (bthen B1.out b3)
 have K3 := aside (blk_on K1.out b3)
 clear b3 C2 LI PI1 B1 K1 hw2
 cases q with
 | true =>
  go_wp2
  go_ret
  exact ⟨rfl, B3.out⟩
 | false =>
  have C3 := aside (right13_any 3 a len cap T w3 (HE.out.keep B3.out) HF.out)
  go_wp2_with fail
  refine C3.out.mono ?_
  rintro e w4 ⟨q, rfl, hq, b4⟩
  have B4 := aside (bthen B3.out b4)
  have K4 := aside (blk_on K3.out b4)
  have HQ := aside hq
  clear b4 C3 B3 K3 hq
  cases q with
  | false =>
   go_wp2
   go_ret
   exact ⟨rfl, B4.out⟩
  | true =>
   have HO := aside (HQ.out.1 rfl)
   have C4 := aside (made13_any 3 a len cap T w4 (HE.out.keep B4.out) HF.out (LL.out.keep B4.out) HO.out)
   go_wp2_with fail
   refine C4.out.mono ?_
   rintro e w5 ⟨sb, g, tb, db, rfl, pp, b5⟩
   have BA := bthen b5 (bnew w5 (.cells #[.pointer (some ⟨sb, 0, none⟩), .pointer (some ⟨db, 0, none⟩)] 29))
   have B5 := aside (bthen B4.out BA)
   have K5 := aside (blk_on K4.out BA)
   have PP := aside (pp.below (bnew w5 (.cells #[.pointer (some ⟨sb, 0, none⟩), .pointer (some ⟨db, 0, none⟩)] 29)))
   have KP := aside (heap_alloc_new w5 (.cells #[.pointer (some ⟨sb, 0, none⟩), .pointer (some ⟨db, 0, none⟩)] 29))
   obtain ⟨pb, hpb⟩ : ∃ pb, w5.heap.size = pb := ⟨_, rfl⟩
   rw [hpb] at KP
   have HG := aside (show w.heap.size ≤ sb ∧ w.heap.size ≤ g ∧ w.heap.size ≤ tb ∧ w.heap.size ≤ db from by have h1 := pp.s; have h2 := pp.g; have h3 := pp.t; have h5 := pp.d; have h4 := B4.out.size; omega)
   have HD0 := aside (show w4.heap.size + 1 ≤ (w5.alloc (.cells #[.pointer (some ⟨sb, 0, none⟩), .pointer (some ⟨db, 0, none⟩)] 29)).heap.size from by have h1 := lt_of_blk (show w5.heap[sb]? = some _ from by obtain ⟨T9, n9, s9, -⟩ := pp.code; exact s9.blk); have h2 := pp.s; simp; omega)
   clear b5 pp C4 BA K4 B4
   obtain ⟨w6, hw6⟩ : ∃ w6, w5.alloc (.cells #[.pointer (some ⟨sb, 0, none⟩), .pointer (some ⟨db, 0, none⟩)] 29) = w6 := ⟨_, rfl⟩
   rw [hw6] at B5 K5 PP KP HD0
   generalize (w4.heap.size + 1) = D0 at *
   have HLN := aside (show (firstE T len).length = len from firstE_len T len)
   have HL256 := aside HO.out.len
   have HMP := aside HO.out.map
   generalize (firstE T len) = l at *
   have P6 := aside (HP.out.keep B5.out)
   obtain ⟨p0, p1, p2, p3, p4, p5, p6, p7⟩ := oct K5.out
   obtain ⟨u0, u1⟩ := two_cells KP.out
   have C5 := aside (rcmpU b lf p PP.out.doc HMP.out HL256.out P6.out)
   go_wp2_with fail
   refine C5.out.mono ?_
   rintro e w7 ⟨v7, rfl, t7, b7⟩
   obtain ⟨a7, c7, rfl⟩ := t7.slice
   have P7 := aside (PP.out.below b7)
   have K7 := aside (blk_on K5.out b7)
   have KP7 := aside (blk_on KP.out b7)
   have PI7 := aside (P6.out.keep b7)
   have B7 := aside (bthen B5.out b7)
   clear t7 b7 C5 K5 KP PP B5 P6 p0 p1 p2 p3 p4 p5 p6 p7 u0 u1 hw6 HD0
   by_cases hce : cErr b lf p = 0
   rotate_left
   ·have hceb : (cErr b lf p == 0) = false := by simpa using hce
    obtain ⟨ce, hce2⟩ : ∃ ce, cErr b lf p = ce := ⟨_, rfl⟩
    have hcn : ¬ ce = 0 := by rw [← hce2]; exact hce
    rw [hce2] at hceb ⊢
    clear hce hce2
    go_wp2
    go_ret
    exact ⟨rfl, B7.out⟩
   by_cases hl2 : ((cQ b lf p l).length : Int) < 2
   ·rw [hce]
    generalize (cQ b lf p l).length = n2 at hl2 ⊢
    go_wp2
    go_ret
    exact ⟨rfl, B7.out⟩
   obtain ⟨q, hq1, hq2, hq3⟩ := cQ_two HL256.out hce (by omega)
   have HQ2 := aside hq2
   have HRC := aside (cErr_ok hce).2.2.2
   rw [hq1, spQ_len] at hl2 ⊢
   have hl3 : ¬ ((q : Int) + 1 < 2) := by omega
   have hl4 : ¬ (b < (q : Int) + 1) := by omega
   have hl5 : (q : Int) + 1 ≤ b := by omega
   rw [hce]
   obtain ⟨p0, p1, p2, p3, p4, p5, p6, p7⟩ := oct K7.out
   obtain ⟨u0, u1⟩ := two_cells KP7.out
   have C6 := aside (cmpX_any b lf p P7.out.code P7.out.lanes HMP.out HL256.out PI7.out HZ.out)
   rw [hce, hq1] at C6
   have HFO := aside (fun j (hj : j < q + 1) => cut_count HMP.out HL256.out HRC.out hq2 hj)
   have HSU := aside (fun j (hj : j < q + 1) => sumQ_step HMP.out HRC.out hq2 hj)
   have HSE := aside (sumQ_end HMP.out HRC.out q)
   have HSZ := aside (sumQ_zero p.rg l q)
   have HTI := aside (cut_tiles HMP.out HRC.out hq2)
   have HPE := aside (fun j (hj : j < q + 1) => cut_ok HMP.out HRC.out hq2 hj)
   have HQL := aside (show q + 1 ≤ 256 from Nat.le_trans hq2 (Nat.le_trans (keysIn_le _ _) HL256.out))
   clear hq1 hq2 hq3 hce hl2
   go_wp2_with fail
   refine C6.out.mono ?_
   rintro e w8 ⟨v8, rfl, t8, s8, k8, l8⟩
   obtain ⟨a8, c8, ms, rfl, hPA, hml, hat, hfm⟩ := t8.parts (fun x hx => by unfold spQ at hx; obtain ⟨i, -, rfl⟩ := List.mem_map.1 hx; intro e he; cases he)
   rw [spQ_len] at hPA hml hat hfm ⊢
   have PR := aside hPA
   have HAT := aside (show ∀ j, j < q + 1 → ∃ ea ec, nthP ms j = (prQ l (cutR p.rg l q j)).pm ea ec from fun j hj => by
    obtain ⟨x, ea, ec, e1, e2⟩ := hat j hj
    rw [spQ_at _ _ _ hj] at e1
    injection e1 with e1
    subst e1
    exact ⟨ea, ec, e2⟩)
   have S8 := aside s8
   have L8 := aside l8
   have K8 := aside (blk_keep K7.out k8 (P7.out.code.not K7.out (by decide) (by decide) (by decide)))
   have KP8 := aside (blk_keep KP7.out k8 (P7.out.code.not KP7.out (by decide) (by decide) (by decide)))
   have B8 := aside (B7.out.trans (k8.below B7.out.size (fun k hk => by have := HG.out; unfold Of; omega)))
   have hlc := hPA.1
   clear t8 s8 k8 l8 hPA hml hat hfm C6 K7 KP7 P7 B7 PI7 p0 p1 p2 p3 p4 p5 p6 p7 u0 u1
   have NB := bthen (bnew w8 (.cells #[.int .i64 0, .int .u64 0, .int .u64 0] 45)) (bnew _ (.cells #[] 40))
   have S0 := aside (S8.out.below NB)
   have L0 := aside (L8.out.keep NB)
   have KK0 := aside (Keeps.of_below NB (Of sb g tb))
   have KT0 := aside (show ((w8.alloc (.cells #[.int .i64 0, .int .u64 0, .int .u64 0] 45)).alloc (.cells #[] 40)).heap[w8.heap.size]? = some (.cells #[.int .i64 (sumQ p.rg l q 0).n, .int .u64 (sumQ p.rg l q 0).a, .int .u64 (sumQ p.rg l q 0).b] 45 (0, 0)) from by rw [HSZ.out]; exact blk_on (heap_alloc_new w8 (.cells #[.int .i64 0, .int .u64 0, .int .u64 0] 45)) (bnew _ _))
   have R0 := aside (show ((w8.alloc (.cells #[.int .i64 0, .int .u64 0, .int .u64 0] 45)).alloc (.cells #[] 40)).ownsRow w8.heap.size 40 3 (.slice (some ⟨w8.heap.size + 1, 0, none⟩) 0 0) 0 (rgCells (cutR p.rg l q) 0) from by
    have h9 := World.ownsRow_made (e := 40) (size := 3) (base := w8.heap.size) (w8.alloc (.cells #[.int .i64 0, .int .u64 0, .int .u64 0] 45)) #[] 0 (by simp) (Nat.zero_le _) rfl
    rw [World.size_alloc] at h9
    exact h9)
   have HW0 := aside (show 0 < w8.heap.size from by have := S8.out.lt; omega)
   clear NB
   go_wp2_with fail
   go_loopw [16, 17] (fun v i wr => ∃ j : Nat, i = .int .i64 (j : Int) ∧ j ≤ q + 1 ∧ Hid (wr.ownsRow w8.heap.size 40 3 v j (rgCells (cutR p.rg l q) j)) ∧ Hid (wr.heap[w8.heap.size]? = some (.cells #[.int .i64 (sumQ p.rg l q j).n, .int .u64 (sumQ p.rg l q j).a, .int .u64 (sumQ p.rg l q j).b] 45 (0, 0))) ∧ Hid (Sto wr sb g tb 3 1099511627776 l) ∧ Hid (Keeps (Of sb g tb) w8 wr) ∧ Hid (Lanes wr)) (fun v i _ => q + 1 - (intOf i).toNat)
   case atStart => exact ⟨0, rfl, Nat.zero_le _, R0, KT0, S0, KK0, L0⟩
   case round =>
    obtain ⟨j, rfl, hj, HR, HT, HS, HK, HLn⟩ := hrel
    clear R0 KT0 S0 KK0 L0
    obtain ⟨a9, c9, rfl, -, -, -⟩ := own_slice HR.out
    by_cases hlt : (j : Int) < (q : Int) + 1
    ·have hj0 : (0 : Int) ≤ (j : Int) := by omega
     have hjq : j < q + 1 := by omega
     have HFJ := HFO.out j hjq
     have HSJ := HSU.out j hjq
     have HPJ := HPE.out j hjq
     have HSN := aside (show rgCells (cutR p.rg l q) (j + 1) = rgCells (cutR p.rg l q) j ++ [.string (cutR p.rg l q j).lo, .string (cutR p.rg l q j).hi, .bool (cutR p.rg l q j).op] from rfl)
     obtain ⟨ea, ec, hnp⟩ := HAT.out j hjq
     have HNP := aside hnp
     have HCH := aside (show Rg.chk ⟨(cutR p.rg l q j).lo, (cutR p.rg l q j).hi, (cutR p.rg l q j).op⟩ = 0 from by
      have h9 := HPJ
      unfold prErr at h9
      by_cases hh : (cutR p.rg l q j).chk = 0
      ·exact hh
      ·rw [if_pos hh] at h9; exact absurd h9 hh)
     have C7 := aside (fun (W : World) (hs : Sto W sb g tb 3 1099511627776 l) (hL : Lanes W) => qfold (cutR p.rg l q j).lo (cutR p.rg l q j).hi (cutR p.rg l q j).op hs hL (by have := HL256.out; omega))
     rw [HCH.out] at C7
     have CEL := aside (fun (W : World) (k : Keeps (Of sb g tb) w8 W) => show ∃ bp off, a8 = some ⟨bp, off, none⟩ ∧ W.cell? ⟨bp, off + j * 8, none⟩ = some (.int .i64 1) ∧ W.cell? ⟨bp, off + j * 8 + 1, none⟩ = some (.string (cutR p.rg l q j).lo) ∧ W.cell? ⟨bp, off + j * 8 + 2, none⟩ = some (.string (cutR p.rg l q j).hi) ∧ W.cell? ⟨bp, off + j * 8 + 3, none⟩ = some (.bool (cutR p.rg l q j).op) ∧ W.cell? ⟨bp, off + j * 8 + 4, none⟩ = some (.int .i64 (foldV (cutR p.rg l q j).lo (cutR p.rg l q j).hi (cutR p.rg l q j).op l).n) ∧ W.cell? ⟨bp, off + j * 8 + 5, none⟩ = some (.int .u64 (foldV (cutR p.rg l q j).lo (cutR p.rg l q j).hi (cutR p.rg l q j).op l).a) ∧ W.cell? ⟨bp, off + j * 8 + 6, none⟩ = some (.int .u64 (foldV (cutR p.rg l q j).lo (cutR p.rg l q j).hi (cutR p.rg l q j).op l).b) from by
      rcases (PR.out.keepS S8.out k).2.2 with h0 | ⟨bp, off, e, -, hc⟩
      ·omega
      ·obtain ⟨⟨c0, c1, c2, c3, c4, c5, c6, c7⟩, -⟩ := hc j hjq
       rw [HNP.out] at c0 c1 c2 c3 c4 c5 c6
       exact ⟨bp, off, e, c0, c1, c2, c3, c4, c5, c6⟩)
     have CPA := aside (fun (W : World) (k : Keeps (Of sb g tb) w8 W) => show W.cell? ⟨pb, 0, none⟩ = some (.pointer (some ⟨sb, 0, none⟩)) from (two_cells (blk_keep KP8.out k (S8.out.not KP8.out (by decide) (by decide) (by decide)))).1)
     obtain ⟨r3, hr3⟩ : ∃ r3, cutR p.rg l q j = r3 := ⟨_, rfl⟩
     rw [hr3] at C7 CEL HSN HFJ HSJ
     obtain ⟨t3, ht3⟩ : ∃ t3, foldV r3.lo r3.hi r3.op l = t3 := ⟨_, rfl⟩
     rw [ht3] at C7 CEL HFJ HSJ
     have HR3 := aside hr3
     have HFC := aside HFJ
     have HSS := aside HSJ
     clear hnp hr3 ht3 HPJ HFJ HSJ HCH
     obtain ⟨bp, off, ha8, d0, d1, d2, d3, d4, d5, d6⟩ := CEL.out wr HK.out
     have u0 := CPA.out wr HK.out
     have ha8' := ha8
     rw [ha8] at CEL
     subst ha8
     have hwr : IntKind.i64.wrap ((j : Int) + 1) = (((j + 1 : Nat)) : Int) := by rw [IntKind.wrap_i64]; have := HQL.out; omega
     have HSB := aside (lt_of_blk HT.out)
     obtain ⟨sj, hsj⟩ : ∃ sj, sumQ p.rg l q j = sj := ⟨_, rfl⟩
     rw [hsj] at HT HSS
     clear hsj ha8'
     go_wp2_with fail
     refine wp_region_held_drew (S := fun W => W.cell? ⟨pb, 0, none⟩ = some (.pointer (some ⟨sb, 0, none⟩)) ∧ W.cell? ⟨bp, off + j * 8 + 1, none⟩ = some (.string r3.lo) ∧ W.cell? ⟨bp, off + j * 8 + 2, none⟩ = some (.string r3.hi) ∧ W.cell? ⟨bp, off + j * 8 + 3, none⟩ = some (.bool r3.op)) (by kernel_rfl) ⟨u0, d1, d2, d3⟩ (fun hHeld => ?_)
     have HNB := aside (HS.out.not (blk_keep KP8.out HK.out (S8.out.not KP8.out (by decide) (by decide) (by decide))) (by decide) (by decide) (by decide))
     have HNP2 := aside (HS.out.str d1)
     clear d0 d1 d2 d3 d4 d5 d6 u0
     refine tk 0 rfl _ ?_; refine tk 1 rfl _ ?_; refine tk 2 rfl _ ?_; refine tk 3 rfl _ ?_; refine tk 4 rfl _ ?_; refine tk 5 rfl _ ?_; refine tk 6 rfl _ ?_
     refine wpAnyH_ready (rs := [7, 11]) (by kernel_rfl) (by simp) ?_
     refine AllReadyH.cons rfl (fun K hK => ?_) (AllReadyH.cons rfl (fun K hK => ?_) AllReadyH.nil)
     ·go_simp
      refine (C7.out _ (HS.out.below (Below.refl wr.heap.size wr).drew) (HLn.out.keep (Below.refl wr.heap.size wr).drew)).mono ?_
      rintro e w9 ⟨rfl, s9, k9, l9⟩
      refine hK.out _ _ (⟨(k9.cell (World.block_lt_of_cell? _ _ hHeld.1) HNB.out).trans hHeld.1, (k9.cell (World.block_lt_of_cell? _ _ hHeld.2.1) HNP2.out).trans hHeld.2.1, (k9.cell (World.block_lt_of_cell? _ _ hHeld.2.2.1) HNP2.out).trans hHeld.2.2.1, (k9.cell (World.block_lt_of_cell? _ _ hHeld.2.2.2) HNP2.out).trans hHeld.2.2.2⟩) (fun hHeld => ?_)
      clear hK K
      refine tk 8 rfl _ ?_; refine tk 9 rfl _ ?_; refine tk 10 rfl _ ?_
      have DB := (Below.refl wr.heap.size wr).drew
      have SD := HS.out.below DB
      have NB := bnew w9 (.cells #[.int .i64 0, .int .u64 0, .int .u64 0] 45)
      have KN := aside (heap_alloc_new w9 (.cells #[.int .i64 0, .int .u64 0, .int .u64 0] 45))
      have Sv := aside (s9.below NB)
      have Lv := aside (l9.keep NB)
      have Rv := aside (own_on (own_keep (own_on HR.out DB) k9 (fun i cs e => SD.not e (by decide) (by decide) (by decide))) NB)
      have Tv := aside (blk_on (blk_keep (blk_on HT.out DB) k9 (SD.not (blk_on HT.out DB) (by decide) (by decide) (by decide))) NB)
      have Kv := aside (((HK.out.drew).trans k9).alloc (.cells #[.int .i64 0, .int .u64 0, .int .u64 0] 45))
      have HNW := aside (show w8.heap.size ≤ w9.heap.size ∧ 0 < w9.heap.size from by have h8 := HK.out.size; have h9 := k9.size; have h7 := HW0.out; have h6 : wr.drew.heap.size = wr.heap.size := rfl; omega)
      have HNS := aside (show ¬ w8.heap.size = w9.heap.size from by have h8 := HSB.out; have h9 := k9.size; have h6 : wr.drew.heap.size = wr.heap.size := rfl; omega)
      have HPN := aside (show pb ≠ w9.heap.size ∧ bp ≠ w9.heap.size from ⟨by have := World.block_lt_of_cell? _ _ hHeld.1; simp at this; omega, by have := World.block_lt_of_cell? _ _ hHeld.2.1; simp at this; omega⟩)
      refine rd 11 rfl fun K hK => ?_
      go_simp
      refine hK.out _ _ (⟨cell_in hHeld.1 (bnew _ _), cell_in hHeld.2.1 (bnew _ _), cell_in hHeld.2.2.1 (bnew _ _), cell_in hHeld.2.2.2 (bnew _ _)⟩) (fun hHeld => ?_)
      clear hK K s9 l9 k9 NB SD DB
      obtain ⟨V, hV⟩ : ∃ V, w9.alloc (.cells #[.int .i64 0, .int .u64 0, .int .u64 0] 45) = V := ⟨_, rfl⟩
      obtain ⟨nb, hnb⟩ : ∃ nb, w9.heap.size = nb := ⟨_, rfl⟩
      rw [hV] at KN Sv Lv Rv Tv Kv hHeld ⊢
      rw [hnb] at KN HPN HNW HNS ⊢
      clear hV hnb
      obtain ⟨z0, z1, z2⟩ := box3r KN.out
      have y0 := frozen_of_row _ _ 0 _ _ KN.out
      have y1 := frozen_of_row _ _ 1 _ _ KN.out
      have y2 := frozen_of_row _ _ 2 _ _ KN.out
      have KF := aside ((((Keeps.refl (fun x => x = nb) V).setCell (p := ⟨nb, 0, none⟩) (fun _ => rfl) (.int .i64 t3.n)).setCell (p := ⟨nb, 1, none⟩) (fun _ => rfl) (.int .u64 t3.a)).setCell (p := ⟨nb, 2, none⟩) (fun _ => rfl) (.int .u64 t3.b))
      have S3 := aside (Sv.out.set KN.out (by decide) (by decide) (by decide) (by decide) KF.out)
      have L3 := aside (Lv.out.keeps KF.out (fun (e : 0 = nb) => by have h8 := HNW.out; have h9 := HW0.out; omega))
      have R3 := aside (own_keep Rv.out KF.out (fun i cs hi e => by subst e; rw [KN.out] at hi; simp at hi))
      have T3 := aside (blk_keep Tv.out KF.out (fun e => HNS.out e))
      have K3 := aside (((Kv.out.setCell (p := ⟨nb, 0, none⟩) (fun hh => absurd hh (by have h8 := HNW.out; simp; omega)) (.int .i64 t3.n)).setCell (p := ⟨nb, 1, none⟩) (fun hh => absurd hh (by have h8 := HNW.out; simp; omega)) (.int .u64 t3.a)).setCell (p := ⟨nb, 2, none⟩) (fun hh => absurd hh (by have h8 := HNW.out; simp; omega)) (.int .u64 t3.b))
      have KR := (set_in 2 (.int .u64 t3.b) (set_in 1 (.int .u64 t3.a) (set_in 0 (.int .i64 t3.n) KN.out)))
      simp only [List.setIfInBounds_toArray, List.set_cons_zero, List.set_cons_succ] at KR
      have KN3 := aside KR
      clear KR KF
      clear Sv Lv Rv Tv Kv HS HLn HR HT HK
      refine rd 12 rfl fun K hK => ?_
      go_simp
      refine hK.out _ _ (⟨cell_apart (cell_apart (cell_apart hHeld.1 HPN.out.1) HPN.out.1) HPN.out.1, cell_apart (cell_apart (cell_apart hHeld.2.1 HPN.out.2) HPN.out.2) HPN.out.2, cell_apart (cell_apart (cell_apart hHeld.2.2.1 HPN.out.2) HPN.out.2) HPN.out.2, cell_apart (cell_apart (cell_apart hHeld.2.2.2 HPN.out.2) HPN.out.2) HPN.out.2⟩) (fun hHeld => ?_)
      clear hK K z0 z1 z2 y0 y1 y2 KN
      refine tk 13 rfl _ ?_
      refine wpAnyH_done (by kernel_rfl) ?_ _
      clear hHeld HPN
      obtain ⟨W3, hW3⟩ : ∃ W3, (((V.setCell ⟨nb, 0, none⟩ (.int .i64 t3.n)).setCell ⟨nb, 1, none⟩ (.int .u64 t3.a)).setCell ⟨nb, 2, none⟩ (.int .u64 t3.b)) = W3 := ⟨_, rfl⟩
      rw [hW3] at S3 L3 R3 T3 K3 KN3 ⊢
      clear hW3
      obtain ⟨bp2, off2, he8, d0, d1, d2, d3, d4, d5, d6⟩ := CEL.out W3 K3.out
      simp only [Option.some.injEq, Addr.mk.injEq, and_true] at he8
      obtain ⟨rfl, rfl⟩ := he8
      obtain ⟨n0, n1, n2⟩ := box3r KN3.out
      have SQ : ∀ W, (binOp .neq 45 (.agg #[.int .i64 t3.n, .int .u64 t3.a, .int .u64 t3.b]) (.agg #[.int .i64 t3.n, .int .u64 t3.a, .int .u64 t3.b])).run Tryz.prog W = .ok (.bool false) W := fun W => tal_ne_same _ _ _ W
      have hcnt : ¬ (t3.n < 1) := by have := HFC.out; omega
      go_wp2_with fail
      refine wp_region_held_drew (S := fun W => W.cell? ⟨bp, off + j * 8, none⟩ = some (.int .i64 1) ∧ W.cell? ⟨bp, off + j * 8 + 4, none⟩ = some (.int .i64 t3.n) ∧ W.cell? ⟨bp, off + j * 8 + 5, none⟩ = some (.int .u64 t3.a) ∧ W.cell? ⟨bp, off + j * 8 + 6, none⟩ = some (.int .u64 t3.b) ∧ W.cell? ⟨nb, 0, none⟩ = some (.int .i64 t3.n) ∧ W.cell? ⟨nb, 1, none⟩ = some (.int .u64 t3.a) ∧ W.cell? ⟨nb, 2, none⟩ = some (.int .u64 t3.b)) (by kernel_rfl) ⟨d0, d4, d5, d6, n0, n1, n2⟩ (fun hHeld => ?_)
      refine tk 0 rfl _ ?_; refine tk 1 rfl _ ?_; refine tk 2 rfl _ ?_; refine tk 3 rfl _ ?_; refine tk 4 rfl _ ?_; refine tk 5 rfl _ ?_; refine tk 6 rfl _ ?_; refine tk 7 rfl _ ?_; refine tk 8 rfl _ ?_; refine tk 9 rfl _ ?_; refine tk 10 rfl _ ?_; refine tk 11 rfl _ ?_; refine tk 12 rfl _ ?_; refine tk 13 rfl _ ?_; refine tk 14 rfl _ ?_; refine tk 15 rfl _ ?_; refine tk 16 rfl _ ?_; refine tk 17 rfl _ ?_; refine tk 18 rfl _ ?_; refine tk 19 rfl _ ?_; refine tk 20 rfl _ ?_; refine tk 21 rfl _ ?_; refine tk 22 rfl _ ?_; refine tk 23 rfl _ ?_
      refine wpAnyH_done (by kernel_rfl) ?_ _
      clear hHeld d0 d4 d5 d6 n0 n1 n2 SQ
      have HBS := aside (show bp ≠ w8.heap.size from fun e => by
       have h9 := d1
       rw [e] at h9
       simp only [World.cell?, T3.out] at h9
       rcases hh : off + j * 8 + 1 with _ | _ | _ | _ <;> simp [hh] at h9)
      have C8 := aside (fun W => join_any sj.n sj.a sj.b t3.n t3.a t3.b W)
      rw [tJoin_n, tJoin_a, tJoin_b, HSS.out] at C8
      obtain ⟨sn, hsn⟩ : ∃ sn, sumQ p.rg l q (j + 1) = sn := ⟨_, rfl⟩
      have HSN2 := aside hsn
      rw [hsn] at C8
      clear hsn
      obtain ⟨s0, s1, s2⟩ := box3r T3.out
      obtain ⟨n0, n1, n2⟩ := box3r KN3.out
      go_wp2_with fail
      refine (C8.out _).mono ?_
      rintro e w12 ⟨rfl, b12x⟩
      have b12 := bthen (Below.refl W3.heap.size W3).drew b12x
      have S12 := aside (S3.out.below b12)
      have L12 := aside (L3.out.keep b12)
      have R12 := aside (own_on R3.out b12)
      have T12 := aside (blk_on T3.out b12)
      have K12 := aside (K3.out.trans (Keeps.of_below b12 _))
      have e1 := (cell_apart (k := 2) (u := (.int .u64 sn.b)) (cell_apart (k := 1) (u := (.int .u64 sn.a)) (cell_apart (k := 0) (u := (.int .i64 sn.n)) (cell_in d1 b12) HBS.out) HBS.out) HBS.out)
      have e2 := (cell_apart (k := 2) (u := (.int .u64 sn.b)) (cell_apart (k := 1) (u := (.int .u64 sn.a)) (cell_apart (k := 0) (u := (.int .i64 sn.n)) (cell_in d2 b12) HBS.out) HBS.out) HBS.out)
      have e3 := (cell_apart (k := 2) (u := (.int .u64 sn.b)) (cell_apart (k := 1) (u := (.int .u64 sn.a)) (cell_apart (k := 0) (u := (.int .i64 sn.n)) (cell_in d3 b12) HBS.out) HBS.out) HBS.out)
      clear b12 b12x C8 S3 L3 R3 T3 K3 KN3 s0 s1 s2 n0 n1 n2 d1 d2 d3
      obtain ⟨z0, z1, z2⟩ := box3r T12.out
      have y0 := frozen_of_row _ _ 0 _ _ T12.out
      have y1 := frozen_of_row _ _ 1 _ _ T12.out
      have y2 := frozen_of_row _ _ 2 _ _ T12.out
      have KF := aside ((((Keeps.refl (fun x => x = w8.heap.size) w12).setCell (p := ⟨w8.heap.size, 0, none⟩) (fun _ => rfl) (.int .i64 sn.n)).setCell (p := ⟨w8.heap.size, 1, none⟩) (fun _ => rfl) (.int .u64 sn.a)).setCell (p := ⟨w8.heap.size, 2, none⟩) (fun _ => rfl) (.int .u64 sn.b))
      have NB := bnew (((w12.setCell ⟨w8.heap.size, 0, none⟩ (.int .i64 sn.n)).setCell ⟨w8.heap.size, 1, none⟩ (.int .u64 sn.a)).setCell ⟨w8.heap.size, 2, none⟩ (.int .u64 sn.b)) (.cells #[.string r3.lo, .string r3.hi, .bool r3.op] 40)
      have S13 := aside ((S12.out.set T12.out (by decide) (by decide) (by decide) (by decide) KF.out).below NB)
      have L13 := aside ((L12.out.keeps KF.out (fun (e : 0 = w8.heap.size) => by have h9 := HW0.out; omega)).keep NB)
      have R13 := aside (own_on (own_keep R12.out KF.out (fun i cs hi e => by subst e; rw [T12.out] at hi; simp at hi)) NB)
      have K13 := aside ((((K12.out.setCell (p := ⟨w8.heap.size, 0, none⟩) (fun hh => absurd hh (by simp)) (.int .i64 sn.n)).setCell (p := ⟨w8.heap.size, 1, none⟩) (fun hh => absurd hh (by simp)) (.int .u64 sn.a)).setCell (p := ⟨w8.heap.size, 2, none⟩) (fun hh => absurd hh (by simp)) (.int .u64 sn.b)).alloc (.cells #[.string r3.lo, .string r3.hi, .bool r3.op] 40))
      have KR := (set_in 2 (.int .u64 sn.b) (set_in 1 (.int .u64 sn.a) (set_in 0 (.int .i64 sn.n) T12.out)))
      simp only [List.setIfInBounds_toArray, List.set_cons_zero, List.set_cons_succ] at KR
      have T13 := aside (blk_on KR NB)
      have KS0 := heap_alloc_new (((w12.setCell ⟨w8.heap.size, 0, none⟩ (.int .i64 sn.n)).setCell ⟨w8.heap.size, 1, none⟩ (.int .u64 sn.a)).setCell ⟨w8.heap.size, 2, none⟩ (.int .u64 sn.b)) (.cells #[.string r3.lo, .string r3.hi, .bool r3.op] 40)
      rw [show ((((w12.setCell ⟨w8.heap.size, 0, none⟩ (.int .i64 sn.n)).setCell ⟨w8.heap.size, 1, none⟩ (.int .u64 sn.a)).setCell ⟨w8.heap.size, 2, none⟩ (.int .u64 sn.b))).heap.size = w12.heap.size from by simp] at KS0
      have KS := aside KS0
      have HSZ := aside (show w8.heap.size ≤ (((((w12.setCell ⟨w8.heap.size, 0, none⟩ (.int .i64 sn.n)).setCell ⟨w8.heap.size, 1, none⟩ (.int .u64 sn.a)).setCell ⟨w8.heap.size, 2, none⟩ (.int .u64 sn.b))).alloc (.cells #[.string r3.lo, .string r3.hi, .bool r3.op] 40)).heap.size from K13.out.size)
      clear KR KF KS0 NB S12 L12 R12 K12 T12
      go_wp2_with (at_builtin; go_loud (refine wpList_plain rfl fun K hK => op_append_rgP _ _ rfl w8.heap.size j _ (cutR p.rg l q) (by rfl) R13.out w12.heap.size 1 (by rfl) (by rw [HR3.out]; exact KS.out) (by have := HQL.out; omega) HSZ.out ?_); intro v6 w6 own6 gr6; refine hK _ _ ?_; refine Hid.out ?_)
      refine aside ?_
      have O6 := aside own6
      have S6 := aside (S13.out.grownR R13.out gr6)
      have L6 := aside (L13.out.grownR HW0.out R13.out gr6)
      have T6 := aside (blk_grownR R13.out gr6 T13.out (by decide))
      have K6 := aside (keeps_grownR K13.out R13.out (Nat.le_refl _) gr6)
      clear own6 gr6 S13 L13 R13 T13 K13 KS HSZ z0 z1 z2 y0 y1 y2 e1 e2 e3
      go_wp2
      go_roundw
      case rel => exact ⟨j + 1, by go_num, by omega, O6, by rw [HSN2.out]; exact T6, S6, K6, L6⟩
      case measure => simp [intOf]; omega
     ·go_simp
      have NB : Below wr.heap.size wr (wr.alloc (.cells #[.int .i64 0, .int .u64 0, .int .u64 0] 45)).drew := (bnew wr (.cells #[.int .i64 0, .int .u64 0, .int .u64 0] 45)).drew
      have KN0 : (wr.alloc (.cells #[.int .i64 0, .int .u64 0, .int .u64 0] 45)).drew.heap[wr.heap.size]? = some (.cells #[.int .i64 0, .int .u64 0, .int .u64 0] 45 (0, 0)) := heap_alloc_new wr (.cells #[.int .i64 0, .int .u64 0, .int .u64 0] 45)
      refine hK.out _ _ (⟨cell_in hHeld.1 (bnew _ _), cell_in hHeld.2.1 (bnew _ _), cell_in hHeld.2.2.1 (bnew _ _), cell_in hHeld.2.2.2 (bnew _ _)⟩) (fun hHeld => ?_)
      clear hK K
      obtain ⟨V, hV⟩ : ∃ V, (wr.alloc (.cells #[.int .i64 0, .int .u64 0, .int .u64 0] 45)).drew = V := ⟨_, rfl⟩
      obtain ⟨nb, hnb⟩ : ∃ nb, wr.heap.size = nb := ⟨_, rfl⟩
      rw [hV] at NB KN0 hHeld ⊢
      have HNW := aside (show w8.heap.size ≤ nb ∧ 0 < nb from by have h8 := HK.out.size; have h7 := HW0.out; omega)
      have HNS := aside (show ¬ w8.heap.size = nb from by have h8 := HSB.out; omega)
      rw [hnb] at KN0
      first | rw [hnb] | (show wpAnyH _ _ _ _ _ _ _ _ _; rw [show wr.drew.heap.size = nb from hnb])
      clear hnb
      have HPN := aside (show pb ≠ nb ∧ bp ≠ nb from ⟨fun e => by subst e; have h9 := hHeld.1; simp [World.cell?, KN0] at h9, fun e => by subst e; have h9 := hHeld.2.1; simp only [World.cell?, KN0] at h9; rcases hh : off + j * 8 + 1 with _ | _ | _ | _ <;> simp [hh] at h9⟩)
      have SDH := aside (HS.out.below NB)
      have NBH := aside NB
      have KNH := aside KN0
      clear NB KN0
      refine rd 7 rfl fun K hK => ?_
      go_simp
      refine (C7.out _ SDH.out (HLn.out.keep NBH.out)).mono ?_
      rintro e w9 ⟨rfl, s9, k9, l9⟩
      have SD := SDH.out
      have NB := NBH.out
      have KN0 := KNH.out
      refine hK.out _ _ (⟨(k9.cell (World.block_lt_of_cell? _ _ hHeld.1) HNB.out).trans hHeld.1, (k9.cell (World.block_lt_of_cell? _ _ hHeld.2.1) HNP2.out).trans hHeld.2.1, (k9.cell (World.block_lt_of_cell? _ _ hHeld.2.2.1) HNP2.out).trans hHeld.2.2.1, (k9.cell (World.block_lt_of_cell? _ _ hHeld.2.2.2) HNP2.out).trans hHeld.2.2.2⟩) (fun hHeld => ?_)
      clear hK K
      have s9H := aside s9
      have l9H := aside l9
      have KN := aside (blk_keep KN0 k9 (SD.not KN0 (by decide) (by decide) (by decide)))
      have Rv := aside (own_keep (own_on HR.out NB) k9 (fun i cs e => SD.not e (by decide) (by decide) (by decide)))
      have Tv := aside (blk_keep (blk_on HT.out NB) k9 (SD.not (blk_on HT.out NB) (by decide) (by decide) (by decide)))
      have Kv := aside ((HK.out.trans (Keeps.of_below NB _)).trans k9)
      clear SD NB KN0 hV s9 l9 k9 SDH NBH KNH
      refine tk 8 rfl _ ?_; refine tk 9 rfl _ ?_; refine tk 10 rfl _ ?_
      obtain ⟨z0, z1, z2⟩ := box3r KN.out
      have y0 := frozen_of_row _ _ 0 _ _ KN.out
      have y1 := frozen_of_row _ _ 1 _ _ KN.out
      have y2 := frozen_of_row _ _ 2 _ _ KN.out
      have KF := aside ((((Keeps.refl (fun x => x = nb) w9).setCell (p := ⟨nb, 0, none⟩) (fun _ => rfl) (.int .i64 t3.n)).setCell (p := ⟨nb, 1, none⟩) (fun _ => rfl) (.int .u64 t3.a)).setCell (p := ⟨nb, 2, none⟩) (fun _ => rfl) (.int .u64 t3.b))
      have S3 := aside (s9H.out.set KN.out (by decide) (by decide) (by decide) (by decide) KF.out)
      have L3 := aside (l9H.out.keeps KF.out (fun (e : 0 = nb) => by have h8 := HNW.out; have h9 := HW0.out; omega))
      have R3 := aside (own_keep Rv.out KF.out (fun i cs hi e => by subst e; rw [KN.out] at hi; simp at hi))
      have T3 := aside (blk_keep Tv.out KF.out (fun e => HNS.out e))
      have K3 := aside (((Kv.out.setCell (p := ⟨nb, 0, none⟩) (fun hh => absurd hh (by have h8 := HNW.out; simp; omega)) (.int .i64 t3.n)).setCell (p := ⟨nb, 1, none⟩) (fun hh => absurd hh (by have h8 := HNW.out; simp; omega)) (.int .u64 t3.a)).setCell (p := ⟨nb, 2, none⟩) (fun hh => absurd hh (by have h8 := HNW.out; simp; omega)) (.int .u64 t3.b))
      have KR := (set_in 2 (.int .u64 t3.b) (set_in 1 (.int .u64 t3.a) (set_in 0 (.int .i64 t3.n) KN.out)))
      simp only [List.setIfInBounds_toArray, List.set_cons_zero, List.set_cons_succ] at KR
      have KN3 := aside KR
      clear KR KF
      clear s9H l9H Rv Tv Kv HS HLn HR HT HK
      refine rd 12 rfl fun K hK => ?_
      go_simp
      refine hK.out _ _ (⟨cell_apart (cell_apart (cell_apart hHeld.1 HPN.out.1) HPN.out.1) HPN.out.1, cell_apart (cell_apart (cell_apart hHeld.2.1 HPN.out.2) HPN.out.2) HPN.out.2, cell_apart (cell_apart (cell_apart hHeld.2.2.1 HPN.out.2) HPN.out.2) HPN.out.2, cell_apart (cell_apart (cell_apart hHeld.2.2.2 HPN.out.2) HPN.out.2) HPN.out.2⟩) (fun hHeld => ?_)
      clear hK K z0 z1 z2 y0 y1 y2 KN
      refine tk 13 rfl _ ?_
      refine wpAnyH_done (by kernel_rfl) ?_ _
      clear hHeld HPN
      obtain ⟨W3, hW3⟩ : ∃ W3, (((w9.setCell ⟨nb, 0, none⟩ (.int .i64 t3.n)).setCell ⟨nb, 1, none⟩ (.int .u64 t3.a)).setCell ⟨nb, 2, none⟩ (.int .u64 t3.b)) = W3 := ⟨_, rfl⟩
      rw [hW3] at S3 L3 R3 T3 K3 KN3 ⊢
      clear hW3
      obtain ⟨bp2, off2, he8, d0, d1, d2, d3, d4, d5, d6⟩ := CEL.out W3 K3.out
      simp only [Option.some.injEq, Addr.mk.injEq, and_true] at he8
      obtain ⟨rfl, rfl⟩ := he8
      obtain ⟨n0, n1, n2⟩ := box3r KN3.out
      have SQ : ∀ W, (binOp .neq 45 (.agg #[.int .i64 t3.n, .int .u64 t3.a, .int .u64 t3.b]) (.agg #[.int .i64 t3.n, .int .u64 t3.a, .int .u64 t3.b])).run Tryz.prog W = .ok (.bool false) W := fun W => tal_ne_same _ _ _ W
      have hcnt : ¬ (t3.n < 1) := by have := HFC.out; omega
      go_wp2_with fail
      refine wp_region_held_drew (S := fun W => W.cell? ⟨bp, off + j * 8, none⟩ = some (.int .i64 1) ∧ W.cell? ⟨bp, off + j * 8 + 4, none⟩ = some (.int .i64 t3.n) ∧ W.cell? ⟨bp, off + j * 8 + 5, none⟩ = some (.int .u64 t3.a) ∧ W.cell? ⟨bp, off + j * 8 + 6, none⟩ = some (.int .u64 t3.b) ∧ W.cell? ⟨nb, 0, none⟩ = some (.int .i64 t3.n) ∧ W.cell? ⟨nb, 1, none⟩ = some (.int .u64 t3.a) ∧ W.cell? ⟨nb, 2, none⟩ = some (.int .u64 t3.b)) (by kernel_rfl) ⟨d0, d4, d5, d6, n0, n1, n2⟩ (fun hHeld => ?_)
      refine tk 0 rfl _ ?_; refine tk 1 rfl _ ?_; refine tk 2 rfl _ ?_; refine tk 3 rfl _ ?_; refine tk 4 rfl _ ?_; refine tk 5 rfl _ ?_; refine tk 6 rfl _ ?_; refine tk 7 rfl _ ?_; refine tk 8 rfl _ ?_; refine tk 9 rfl _ ?_; refine tk 10 rfl _ ?_; refine tk 11 rfl _ ?_; refine tk 12 rfl _ ?_; refine tk 13 rfl _ ?_; refine tk 14 rfl _ ?_; refine tk 15 rfl _ ?_; refine tk 16 rfl _ ?_; refine tk 17 rfl _ ?_; refine tk 18 rfl _ ?_; refine tk 19 rfl _ ?_; refine tk 20 rfl _ ?_; refine tk 21 rfl _ ?_; refine tk 22 rfl _ ?_; refine tk 23 rfl _ ?_
      refine wpAnyH_done (by kernel_rfl) ?_ _
      clear hHeld d0 d4 d5 d6 n0 n1 n2 SQ
      have HBS := aside (show bp ≠ w8.heap.size from fun e => by
       have h9 := d1
       rw [e] at h9
       simp only [World.cell?, T3.out] at h9
       rcases hh : off + j * 8 + 1 with _ | _ | _ | _ <;> simp [hh] at h9)
      have C8 := aside (fun W => join_any sj.n sj.a sj.b t3.n t3.a t3.b W)
      rw [tJoin_n, tJoin_a, tJoin_b, HSS.out] at C8
      obtain ⟨sn, hsn⟩ : ∃ sn, sumQ p.rg l q (j + 1) = sn := ⟨_, rfl⟩
      have HSN2 := aside hsn
      rw [hsn] at C8
      clear hsn
      obtain ⟨s0, s1, s2⟩ := box3r T3.out
      obtain ⟨n0, n1, n2⟩ := box3r KN3.out
      go_wp2_with fail
      refine (C8.out _).mono ?_
      rintro e w12 ⟨rfl, b12x⟩
      have b12 := bthen (Below.refl W3.heap.size W3).drew b12x
      have S12 := aside (S3.out.below b12)
      have L12 := aside (L3.out.keep b12)
      have R12 := aside (own_on R3.out b12)
      have T12 := aside (blk_on T3.out b12)
      have K12 := aside (K3.out.trans (Keeps.of_below b12 _))
      have e1 := (cell_apart (k := 2) (u := (.int .u64 sn.b)) (cell_apart (k := 1) (u := (.int .u64 sn.a)) (cell_apart (k := 0) (u := (.int .i64 sn.n)) (cell_in d1 b12) HBS.out) HBS.out) HBS.out)
      have e2 := (cell_apart (k := 2) (u := (.int .u64 sn.b)) (cell_apart (k := 1) (u := (.int .u64 sn.a)) (cell_apart (k := 0) (u := (.int .i64 sn.n)) (cell_in d2 b12) HBS.out) HBS.out) HBS.out)
      have e3 := (cell_apart (k := 2) (u := (.int .u64 sn.b)) (cell_apart (k := 1) (u := (.int .u64 sn.a)) (cell_apart (k := 0) (u := (.int .i64 sn.n)) (cell_in d3 b12) HBS.out) HBS.out) HBS.out)
      clear b12 b12x C8 S3 L3 R3 T3 K3 KN3 s0 s1 s2 n0 n1 n2 d1 d2 d3
      obtain ⟨z0, z1, z2⟩ := box3r T12.out
      have y0 := frozen_of_row _ _ 0 _ _ T12.out
      have y1 := frozen_of_row _ _ 1 _ _ T12.out
      have y2 := frozen_of_row _ _ 2 _ _ T12.out
      have KF := aside ((((Keeps.refl (fun x => x = w8.heap.size) w12).setCell (p := ⟨w8.heap.size, 0, none⟩) (fun _ => rfl) (.int .i64 sn.n)).setCell (p := ⟨w8.heap.size, 1, none⟩) (fun _ => rfl) (.int .u64 sn.a)).setCell (p := ⟨w8.heap.size, 2, none⟩) (fun _ => rfl) (.int .u64 sn.b))
      have NB := bnew (((w12.setCell ⟨w8.heap.size, 0, none⟩ (.int .i64 sn.n)).setCell ⟨w8.heap.size, 1, none⟩ (.int .u64 sn.a)).setCell ⟨w8.heap.size, 2, none⟩ (.int .u64 sn.b)) (.cells #[.string r3.lo, .string r3.hi, .bool r3.op] 40)
      have S13 := aside ((S12.out.set T12.out (by decide) (by decide) (by decide) (by decide) KF.out).below NB)
      have L13 := aside ((L12.out.keeps KF.out (fun (e : 0 = w8.heap.size) => by have h9 := HW0.out; omega)).keep NB)
      have R13 := aside (own_on (own_keep R12.out KF.out (fun i cs hi e => by subst e; rw [T12.out] at hi; simp at hi)) NB)
      have K13 := aside ((((K12.out.setCell (p := ⟨w8.heap.size, 0, none⟩) (fun hh => absurd hh (by simp)) (.int .i64 sn.n)).setCell (p := ⟨w8.heap.size, 1, none⟩) (fun hh => absurd hh (by simp)) (.int .u64 sn.a)).setCell (p := ⟨w8.heap.size, 2, none⟩) (fun hh => absurd hh (by simp)) (.int .u64 sn.b)).alloc (.cells #[.string r3.lo, .string r3.hi, .bool r3.op] 40))
      have KR := (set_in 2 (.int .u64 sn.b) (set_in 1 (.int .u64 sn.a) (set_in 0 (.int .i64 sn.n) T12.out)))
      simp only [List.setIfInBounds_toArray, List.set_cons_zero, List.set_cons_succ] at KR
      have T13 := aside (blk_on KR NB)
      have KS0 := heap_alloc_new (((w12.setCell ⟨w8.heap.size, 0, none⟩ (.int .i64 sn.n)).setCell ⟨w8.heap.size, 1, none⟩ (.int .u64 sn.a)).setCell ⟨w8.heap.size, 2, none⟩ (.int .u64 sn.b)) (.cells #[.string r3.lo, .string r3.hi, .bool r3.op] 40)
      rw [show ((((w12.setCell ⟨w8.heap.size, 0, none⟩ (.int .i64 sn.n)).setCell ⟨w8.heap.size, 1, none⟩ (.int .u64 sn.a)).setCell ⟨w8.heap.size, 2, none⟩ (.int .u64 sn.b))).heap.size = w12.heap.size from by simp] at KS0
      have KS := aside KS0
      have HSZ := aside (show w8.heap.size ≤ (((((w12.setCell ⟨w8.heap.size, 0, none⟩ (.int .i64 sn.n)).setCell ⟨w8.heap.size, 1, none⟩ (.int .u64 sn.a)).setCell ⟨w8.heap.size, 2, none⟩ (.int .u64 sn.b))).alloc (.cells #[.string r3.lo, .string r3.hi, .bool r3.op] 40)).heap.size from K13.out.size)
      clear KR KF KS0 NB S12 L12 R12 K12 T12
      go_wp2_with (at_builtin; go_loud (refine wpList_plain rfl fun K hK => op_append_rgP _ _ rfl w8.heap.size j _ (cutR p.rg l q) (by rfl) R13.out w12.heap.size 1 (by rfl) (by rw [HR3.out]; exact KS.out) (by have := HQL.out; omega) HSZ.out ?_); intro v6 w6 own6 gr6; refine hK _ _ ?_; refine Hid.out ?_)
      refine aside ?_
      have O6 := aside own6
      have S6 := aside (S13.out.grownR R13.out gr6)
      have L6 := aside (L13.out.grownR HW0.out R13.out gr6)
      have T6 := aside (blk_grownR R13.out gr6 T13.out (by decide))
      have K6 := aside (keeps_grownR K13.out R13.out (Nat.le_refl _) gr6)
      clear own6 gr6 S13 L13 R13 T13 K13 KS HSZ z0 z1 z2 y0 y1 y2 e1 e2 e3
      go_wp2
      go_roundw
      case rel => exact ⟨j + 1, by go_num, by omega, O6, by rw [HSN2.out]; exact T6, S6, K6, L6⟩
      case measure => simp [intOf]; omega
    ·obtain rfl : j = q + 1 := by omega
     have KQ := aside (blk_keep K8.out HK.out (S8.out.not K8.out (by decide) (by decide) (by decide)))
     have KPQ := aside (blk_keep KP8.out HK.out (S8.out.not KP8.out (by decide) (by decide) (by decide)))
     have BQ := aside (B8.out.trans (HK.out.below B8.out.size (fun k hk => by have := HG.out; unfold Of; omega)))
     have C9 := aside (qfold p.lo p.hi p.op HS.out HLn.out (by have := HL256.out; omega))
     rw [show Rg.chk ⟨p.lo, p.hi, p.op⟩ = 0 from HRC.out, show foldV p.lo p.hi p.op l = sumQ p.rg l q (q + 1) from HSE.out.symm] at C9
     obtain ⟨sn, hsn⟩ : ∃ sn, sumQ p.rg l q (q + 1) = sn := ⟨_, rfl⟩
     rw [hsn] at C9 HT
     clear hsn
     obtain ⟨p0, p1, p2, p3, p4, p5, p6, p7⟩ := oct KQ.out
     obtain ⟨u0, u1⟩ := two_cells KPQ.out
     go_wp2_with fail
     refine C9.out.mono ?_
     rintro e w20 ⟨rfl, s20, k20, l20⟩
     have BN := bnew w20 (.cells #[.int .i64 sn.n, .int .u64 sn.a, .int .u64 sn.b] 45)
     have T20 := aside (blk_on (blk_keep HT.out k20 (HS.out.not HT.out (by decide) (by decide) (by decide))) BN)
     have R20 := aside (own_on (own_keep HR.out k20 (fun i cs e => HS.out.not e (by decide) (by decide) (by decide))) BN)
     have KQ20 := aside (blk_on (blk_keep KQ.out k20 (HS.out.not KQ.out (by decide) (by decide) (by decide))) BN)
     have KA20 := aside (heap_alloc_new w20 (.cells #[.int .i64 sn.n, .int .u64 sn.a, .int .u64 sn.b] 45))
     have B20 := aside ((BQ.out.trans (k20.below BQ.out.size (fun k hk => by have := HG.out; unfold Of; omega))).alloc (by have h1 := BQ.out.size; have h2 := k20.size; omega) (.cells #[.int .i64 sn.n, .int .u64 sn.a, .int .u64 sn.b] 45))
     clear s20 k20 l20 BN C9 KQ KPQ BQ HS HLn HR HT p0 p1 p2 p3 p4 p5 p6 p7 u0 u1
     obtain ⟨x0, x1, x2⟩ := box3r T20.out
     obtain ⟨y0, y1, y2⟩ := box3r KA20.out
     obtain ⟨p0, p1, p2, p3, p4, p5, p6, p7⟩ := oct KQ20.out
     have SQ : ∀ W, (binOp .eql 45 (.agg #[.int .i64 sn.n, .int .u64 sn.a, .int .u64 sn.b]) (.agg #[.int .i64 sn.n, .int .u64 sn.a, .int .u64 sn.b])).run Tryz.prog W = .ok (.bool true) W := fun W => tal_same _ _ _ W
     have CT := aside (show Calls Tryz.prog 27 #[.slice a9 (q + 1) c9, .agg #[.string p.lo, .string p.hi, .bool p.op]] (w20.alloc (.cells #[.int .i64 sn.n, .int .u64 sn.a, .int .u64 sn.b] 45)) _ from by
      rcases R20.out.2 with ⟨h1, h2⟩ | ⟨g9, cap, cur, h3, h4⟩
      ·omega
      ·have h5 := R20.out
       simp only [Value.slice.injEq] at h3
       obtain ⟨h6, -, -⟩ := h3
       subst h6
       have h7 := tile_any (some ⟨g9, 0, none⟩) (q + 1) c9 (cutR p.rg l q) p.lo p.hi p.op (w20.alloc (.cells #[.int .i64 sn.n, .int .u64 sn.a, .int .u64 sn.b] 45)) (rgs_of_row h5 (h5.lt g9 rfl).2 (by have := HQL.out; omega))
       rw [show tiles (cutR p.rg l q) (q + 1) ⟨p.lo, p.hi, p.op⟩ = true from HTI.out] at h7
       exact h7)
     go_wp2_with fail
     refine CT.out.mono ?_
     rintro e w21 ⟨rfl, b21⟩
     have B21 := aside (bthen B20.out b21)
     clear b21 CT
     go_wp2
     go_ret
     exact ⟨rfl, B21.out⟩
end Go.Proofs.YtpbkjffiohfkcaaGreatDoor

/-
  MatchPrint, walked.
-/
import Derived.Test.YtpbkjffiohfkcaaDoorBp11
import Derived.Test.YtpbkjffiohfkcaaDoorBp12
import Derived.Test.YtpbkjffiohfkcaaDoorBp16
import Derived.Test.YtpbkjffiohfkcaaDoorBp18
namespace Go.Proofs.YtpbkjffiohfkcaaDoor
open Go.RowKit
set_option linter.unusedVariables false
set_option maxHeartbeats 6400000 in
set_option maxRecDepth 100000 in
theorem printLaw_any (a : Option Addr) (len cap : Nat) (T : Nat → En) (lo hi : ByteArray) (op : Bool) (w : World) (h : EntsIn w a len cap T) (hform : (a = none ∧ len = 0 ∧ cap = 0) ∨ ∃ y, a = some y) (L : Lanes w) :
    Calls Tryd.prog 3 #[.slice a len cap, .agg #[.string lo, .string hi, .bool op]] w fun e w' => e = .returned (.bool true) ∧ Below w.heap.size w w' := by
  have HE := aside h
  have HF := aside hform
  have LL := aside L
  clear h hform L
  have B0 := aside (bnew w (.cells #[.string lo, .string hi, .bool op] 24))
  have K0 := aside (heap_alloc_new w (.cells #[.string lo, .string hi, .bool op] 24))
  obtain ⟨rb, hrb⟩ : ∃ rb, w.heap.size = rb := ⟨_, rfl⟩
  rw [hrb] at K0
  obtain ⟨w0, hw0⟩ : ∃ w0, w.alloc (.cells #[.string lo, .string hi, .bool op] 24) = w0 := ⟨_, rfl⟩
  rw [hw0] at B0 K0
  obtain ⟨r0, r1, r2⟩ := box3r K0.out
  have C1 := aside (one_any (⟨0, lo, hi, op, 0, 0, 0, none, 0, 0, fun _ => eZ⟩ : Pm) w0 (bare_in _ rfl rfl rfl))
  go_enter Tryd.func3, Tryd.ntmps3
  go_wp2_with fail
  refine C1.out.mono ?_
  rintro e w1 ⟨g1, c1, rfl, pi1, -, b1⟩
  have PI1 := aside (pi1.keep (bnew w1 (.cells #[.slice a len cap] 22)))
  have BN := aside (bthen b1 (bnew w1 (.cells #[.slice a len cap] 22)))
  have B1 := aside (bthen B0.out BN.out)
  have K1 := aside (blk_on K0.out BN.out)
  have LI := aside (show ListsIn (w1.alloc (.cells #[.slice a len cap] 22)) w1.heap.size 1 (fun _ => a) (fun _ => len) (fun _ => cap) (fun _ => T) from fun k hk => by
    obtain rfl : k = 0 := by omega
    exact ⟨cell_one (heap_alloc_new w1 (.cells #[.slice a len cap] 22)), HE.out.keep B1.out⟩)
  clear b1 pi1 C1 B0 K0 BN r0 r1 r2
  obtain ⟨w2, hw2⟩ : ∃ w2, w1.alloc (.cells #[.slice a len cap] 22) = w2 := ⟨_, rfl⟩
  rw [hw2] at PI1 B1 K1 LI
  have C2 := aside (beyond13_any (some ⟨g1, 0, none⟩) 1 c1 (fun _ => (⟨0, lo, hi, op, 0, 0, 0, none, 0, 0, fun _ => eZ⟩ : Pm)) w1.heap.size 1 1 _ _ _ _ w2 (by omega) LI.out PI1.out)
  go_wp2_with fail
  refine C2.out.mono ?_
  rintro e w3 ⟨q, rfl, -, b3⟩
  have B3 := aside (bthen B1.out b3)
  have K3 := aside (blk_on K1.out b3)
  clear b3 C2 LI PI1 B1 K1 hw2
  cases q with
  | true =>
    go_wp2
    go_ret
    exact ⟨rfl, B3.out⟩
  | false =>
    have C3 := aside (right13_any 0 a len cap T w3 (HE.out.keep B3.out) HF.out)
    go_wp2_with fail
    refine C3.out.mono ?_
    rintro e w4 ⟨q, rfl, hq, b4⟩
    have B4 := aside (bthen B3.out b4)
    have K4 := aside (blk_on K3.out b4)
    have HQ := aside hq
    clear b4 C3 B3 K3 hq
    cases q with
    | false =>
      go_wp2
      go_ret
      exact ⟨rfl, B4.out⟩
    | true =>
      have HO := aside (HQ.out.1 rfl)
      have C4 := aside (made13_any 0 a len cap T w4 (HE.out.keep B4.out) HF.out (LL.out.keep B4.out) HO.out)
      go_wp2_with fail
      refine C4.out.mono ?_
      rintro e w5 ⟨sb, g, tb, db, rfl, pp, b5⟩
      have BA := bthen b5 (bnew w5 (.cells #[.pointer (some ⟨sb, 0, none⟩), .pointer (some ⟨db, 0, none⟩)] 39))
      have B5 := aside (bthen B4.out BA)
      have K5 := aside (blk_on K4.out BA)
      have PP := aside (pp.below (bnew w5 (.cells #[.pointer (some ⟨sb, 0, none⟩), .pointer (some ⟨db, 0, none⟩)] 39)))
      have KP := aside (heap_alloc_new w5 (.cells #[.pointer (some ⟨sb, 0, none⟩), .pointer (some ⟨db, 0, none⟩)] 39))
      obtain ⟨pb, hpb⟩ : ∃ pb, w5.heap.size = pb := ⟨_, rfl⟩
      rw [hpb] at KP
      have HG := aside (show w.heap.size ≤ sb ∧ w.heap.size ≤ g ∧ w.heap.size ≤ tb from by have h1 := pp.s; have h2 := pp.g; have h3 := pp.t; have h4 := B4.out.size; omega)
      clear b5 pp C4 BA K4 B4
      obtain ⟨w6, hw6⟩ : ∃ w6, w5.alloc (.cells #[.pointer (some ⟨sb, 0, none⟩), .pointer (some ⟨db, 0, none⟩)] 39) = w6 := ⟨_, rfl⟩
      rw [hw6] at B5 K5 PP KP
      generalize (w4.heap.size + 1) = D0 at *
      obtain ⟨r0, r1, r2⟩ := box3r K5.out
      obtain ⟨p0, p1⟩ := two_cells KP.out
      obtain ⟨p, hp, hp1, hp2, hp3⟩ := prV_pm lo hi op (foldV lo hi op (firstE T len)) (prErr ⟨lo, hi, op⟩)
      have HL := aside (show (firstE T len).length ≤ 1000000 from by have := HO.out.len; omega)
      have C5 := aside (print_any lo hi op PP.out.code PP.out.lanes HL.out)
      have C6 := aside (fun W (ds : DSt W D0 db 0 1099511627776 (firstE T len)) => rprint_any lo hi op ds HO.out.map HL.out)
      rw [hp] at C5 C6
      have HPI := aside (show ∀ W, p.In W from fun W => bare_in W hp1 hp2 hp3)
      generalize prErr ⟨lo, hi, op⟩ = er at *
      clear hp hp1 hp2 hp3
      go_wp2_with fail
      refine C5.out.mono ?_
      rintro e w7 ⟨rfl, s7, k7, l7⟩
      have D7 := PP.out.doc.keeps PP.out.code k7
      have K7 := aside (blk_on (blk_keep K5.out k7 (PP.out.code.not K5.out (by decide) (by decide) (by decide))) (bnew w7 (.cells #[.int .i64 p.kind, .string p.lo, .string p.hi, .bool p.op, .int .i64 p.cnt, .int .u64 p.s0, .int .u64 p.s1, .slice p.ea p.el p.ec] 34)))
      have KP7 := aside (blk_on (blk_keep KP.out k7 (PP.out.code.not KP.out (by decide) (by decide) (by decide))) (bnew w7 (.cells #[.int .i64 p.kind, .string p.lo, .string p.hi, .bool p.op, .int .i64 p.cnt, .int .u64 p.s0, .int .u64 p.s1, .slice p.ea p.el p.ec] 34)))
      have P7 := aside ((show Pair2 w7 D0 sb g tb db 0 1099511627776 (firstE T len) from ⟨s7, D7, l7, PP.out.s, PP.out.g, PP.out.t, PP.out.d⟩).below (bnew w7 (.cells #[.int .i64 p.kind, .string p.lo, .string p.hi, .bool p.op, .int .i64 p.cnt, .int .u64 p.s0, .int .u64 p.s1, .slice p.ea p.el p.ec] 34)))
      have B7 := aside ((B5.out.trans (k7.below B5.out.size (fun k hk => by have := HG.out; unfold Of; omega))).alloc (by have h1 := B5.out.size; have h2 := k7.size; omega) (.cells #[.int .i64 p.kind, .string p.lo, .string p.hi, .bool p.op, .int .i64 p.cnt, .int .u64 p.s0, .int .u64 p.s1, .slice p.ea p.el p.ec] 34))
      have KX7 := aside (heap_alloc_new w7 (.cells #[.int .i64 p.kind, .string p.lo, .string p.hi, .bool p.op, .int .i64 p.cnt, .int .u64 p.s0, .int .u64 p.s1, .slice p.ea p.el p.ec] 34))
      obtain ⟨xb, hxb⟩ : ∃ xb, w7.heap.size = xb := ⟨_, rfl⟩
      rw [hxb] at KX7
      clear s7 k7 l7 D7 C5 K5 KP PP B5 r0 r1 r2 p0 p1 hw6
      obtain ⟨w8, hw8⟩ : ∃ w8, w7.alloc (.cells #[.int .i64 p.kind, .string p.lo, .string p.hi, .bool p.op, .int .i64 p.cnt, .int .u64 p.s0, .int .u64 p.s1, .slice p.ea p.el p.ec] 34) = w8 := ⟨_, rfl⟩
      rw [hw8] at K7 KP7 P7 B7 KX7
      obtain ⟨r0, r1, r2⟩ := box3r K7.out
      obtain ⟨p0, p1⟩ := two_cells KP7.out
      go_wp2_with fail
      refine (C6.out _ P7.out.doc).mono ?_
      rintro e w9 ⟨rfl, b9⟩
      have BN := bthen b9 (bnew w9 (.cells #[.int .i64 p.kind, .string p.lo, .string p.hi, .bool p.op, .int .i64 p.cnt, .int .u64 p.s0, .int .u64 p.s1, .slice p.ea p.el p.ec] 34))
      have B9 := aside (bthen B7.out BN)
      have KQ := aside (blk_on KP7.out BN)
      have P9 := aside (P7.out.below BN)
      have KX := aside (blk_on KX7.out BN)
      have KY := aside (heap_alloc_new w9 (.cells #[.int .i64 p.kind, .string p.lo, .string p.hi, .bool p.op, .int .i64 p.cnt, .int .u64 p.s0, .int .u64 p.s1, .slice p.ea p.el p.ec] 34))
      obtain ⟨yb, hyb⟩ : ∃ yb, w9.heap.size = yb := ⟨_, rfl⟩
      rw [hyb] at KY
      clear b9 BN C6 K7 KP7 P7 B7 KX7 r0 r1 r2 p0 p1 hw8
      obtain ⟨X, hX⟩ : ∃ X, w9.alloc (.cells #[.int .i64 p.kind, .string p.lo, .string p.hi, .bool p.op, .int .i64 p.cnt, .int .u64 p.s0, .int .u64 p.s1, .slice p.ea p.el p.ec] 34) = X := ⟨_, rfl⟩
      rw [hX] at B9 KQ P9 KX KY
      have CO := aside (fun W => one_any p W (HPI.out W))
      have CT := aside (fun W (b : Below X.heap.size X W) => still13_any (P9.out.below b) HO.out.map HO.out.len)
      have hee : (er == er) = true := by simp
      go_wp2_with fail
      refine wp_region_held_drew (S := fun W => Below X.heap.size X W ∧ (W.cell? ⟨xb, 0, none⟩ = some (.int .i64 p.kind) ∧ W.cell? ⟨xb, 1, none⟩ = some (.string p.lo) ∧ W.cell? ⟨xb, 2, none⟩ = some (.string p.hi) ∧ W.cell? ⟨xb, 3, none⟩ = some (.bool p.op) ∧ W.cell? ⟨xb, 4, none⟩ = some (.int .i64 p.cnt) ∧ W.cell? ⟨xb, 5, none⟩ = some (.int .u64 p.s0) ∧ W.cell? ⟨xb, 6, none⟩ = some (.int .u64 p.s1) ∧ W.cell? ⟨xb, 7, none⟩ = some (.slice p.ea p.el p.ec)) ∧ (W.cell? ⟨yb, 0, none⟩ = some (.int .i64 p.kind) ∧ W.cell? ⟨yb, 1, none⟩ = some (.string p.lo) ∧ W.cell? ⟨yb, 2, none⟩ = some (.string p.hi) ∧ W.cell? ⟨yb, 3, none⟩ = some (.bool p.op) ∧ W.cell? ⟨yb, 4, none⟩ = some (.int .i64 p.cnt) ∧ W.cell? ⟨yb, 5, none⟩ = some (.int .u64 p.s0) ∧ W.cell? ⟨yb, 6, none⟩ = some (.int .u64 p.s1) ∧ W.cell? ⟨yb, 7, none⟩ = some (.slice p.ea p.el p.ec)) ∧ (W.cell? ⟨pb, 0, none⟩ = some (.pointer (some ⟨sb, 0, none⟩)) ∧ W.cell? ⟨pb, 1, none⟩ = some (.pointer (some ⟨db, 0, none⟩)))) (by kernel_rfl) ⟨(Below.refl _ X).drew, oct KX.out, oct KY.out, two_cells KQ.out⟩ (fun hHeld => ?_)
      refine wpAnyH_take (i := 0) (v := ?_) rfl (by kernel_rfl) (by kernel_rfl) (by kernel_rfl) (fun _ _ _ h => h) (Or.inl ⟨by rfl, ?_⟩) (by assumption) ?_
      rotate_left
      · intro w hSw
        go_simp
        try with_reducible rfl
      simp only [Act.put, List.getElem_toArray, List.getElem_cons_zero, List.setIfInBounds_toArray, List.set_cons_zero, List.set_cons_succ]
      refine wpAnyH_take (i := 1) (v := ?_) rfl (by kernel_rfl) (by kernel_rfl) (by kernel_rfl) (fun _ _ _ h => h) (Or.inl ⟨by rfl, ?_⟩) (by assumption) ?_
      rotate_left
      · intro w hSw
        go_simp
        try with_reducible rfl
      simp only [Act.put, List.getElem_toArray, List.getElem_cons_zero, List.getElem_cons_succ, List.setIfInBounds_toArray, List.set_cons_zero, List.set_cons_succ]
      refine wpAnyH_take (i := 2) (v := ?_) rfl (by kernel_rfl) (by kernel_rfl) (by kernel_rfl) (fun _ _ _ h => h) (Or.inl ⟨by rfl, ?_⟩) (by assumption) ?_
      rotate_left
      · intro w hSw
        go_simp
        try with_reducible rfl
      simp only [Act.put, List.getElem_toArray, List.getElem_cons_zero, List.getElem_cons_succ, List.setIfInBounds_toArray, List.set_cons_zero, List.set_cons_succ]
      refine wpAnyH_take (i := 3) (v := ?_) rfl (by kernel_rfl) (by kernel_rfl) (by kernel_rfl) (fun _ _ _ h => h) (Or.inl ⟨by rfl, ?_⟩) (by assumption) ?_
      rotate_left
      · intro w hSw
        go_simp
        try with_reducible rfl
      simp only [Act.put, List.getElem_toArray, List.getElem_cons_zero, List.getElem_cons_succ, List.setIfInBounds_toArray, List.set_cons_zero, List.set_cons_succ]
      refine wpAnyH_take (i := 4) (v := ?_) rfl (by kernel_rfl) (by kernel_rfl) (by kernel_rfl) (fun _ _ _ h => h) (Or.inl ⟨by rfl, ?_⟩) (by assumption) ?_
      rotate_left
      · intro w hSw
        go_simp
        try with_reducible rfl
      simp only [Act.put, List.getElem_toArray, List.getElem_cons_zero, List.getElem_cons_succ, List.setIfInBounds_toArray, List.set_cons_zero, List.set_cons_succ]
      refine wpAnyH_take (i := 6) (v := ?_) rfl (by kernel_rfl) (by kernel_rfl) (by kernel_rfl) (fun _ _ _ h => h) (Or.inl ⟨by rfl, ?_⟩) (by assumption) ?_
      rotate_left
      · intro w hSw
        go_simp
        try with_reducible rfl
      simp only [Act.put, List.getElem_toArray, List.getElem_cons_zero, List.getElem_cons_succ, List.setIfInBounds_toArray, List.set_cons_zero, List.set_cons_succ]
      clear hee
      refine wpAnyH_ready (rs := [5]) (by kernel_rfl) (by simp) ?_
      refine AllReadyH.cons rfl (fun K hK => ?_) AllReadyH.nil
      go_simp
      refine (CO.out _).mono ?_
      rintro e w10 ⟨g10, c10, rfl, pi10, -, b10⟩
      refine hK.out _ _ (⟨hHeld.1.trans (b10.mono hHeld.1.size), oct (blk_on KX.out (hHeld.1.trans (b10.mono hHeld.1.size))), oct (blk_on KY.out (hHeld.1.trans (b10.mono hHeld.1.size))), two_cells (blk_on KQ.out (hHeld.1.trans (b10.mono hHeld.1.size)))⟩) (fun hHeld => ?_)
      clear hK K 
      have PI10 := aside pi10
      clear pi10 b10
      refine wpAnyH_ready (rs := [7]) (by kernel_rfl) (by simp) ?_
      refine AllReadyH.cons rfl (fun K hK => ?_) AllReadyH.nil
      go_simp
      refine (CO.out _).mono ?_
      rintro e w11 ⟨g11, c11, rfl, pi11, -, b11⟩
      refine hK.out _ _ (⟨hHeld.1.trans (b11.mono hHeld.1.size), oct (blk_on KX.out (hHeld.1.trans (b11.mono hHeld.1.size))), oct (blk_on KY.out (hHeld.1.trans (b11.mono hHeld.1.size))), two_cells (blk_on KQ.out (hHeld.1.trans (b11.mono hHeld.1.size)))⟩) (fun hHeld => ?_)
      clear hK K 
      have CS := aside (samePs_yes _ 1 _ _ _ _ _ w11 (PI10.out.keep b11) pi11 (fun i hi => SamePm.rfl' p))
      clear PI10 pi11 b11
      refine wpAnyH_ready (rs := [8]) (by kernel_rfl) (by simp) ?_
      refine AllReadyH.cons rfl (fun K hK => ?_) AllReadyH.nil
      go_simp
      refine (CS.out).mono ?_
      rintro e w12 ⟨rfl, b12⟩
      refine hK.out _ _ (⟨hHeld.1.trans (b12.mono hHeld.1.size), oct (blk_on KX.out (hHeld.1.trans (b12.mono hHeld.1.size))), oct (blk_on KY.out (hHeld.1.trans (b12.mono hHeld.1.size))), two_cells (blk_on KQ.out (hHeld.1.trans (b12.mono hHeld.1.size)))⟩) (fun hHeld => ?_)
      clear hK K 
      clear b12 CS
      refine wpAnyH_take (i := 9) (v := ?_) rfl (by kernel_rfl) (by kernel_rfl) (by kernel_rfl) (fun _ _ _ h => h) (Or.inl ⟨by rfl, ?_⟩) (by assumption) ?_
      rotate_left
      · intro w hSw
        go_simp
        try with_reducible rfl
      simp only [Act.put, List.getElem_toArray, List.getElem_cons_zero, List.getElem_cons_succ, List.setIfInBounds_toArray, List.set_cons_zero, List.set_cons_succ]
      refine wpAnyH_take (i := 10) (v := ?_) rfl (by kernel_rfl) (by kernel_rfl) (by kernel_rfl) (fun _ _ _ h => h) (Or.inl ⟨by rfl, ?_⟩) (by assumption) ?_
      rotate_left
      · intro w hSw
        go_simp
        try with_reducible rfl
      simp only [Act.put, List.getElem_toArray, List.getElem_cons_zero, List.getElem_cons_succ, List.setIfInBounds_toArray, List.set_cons_zero, List.set_cons_succ]
      refine wpAnyH_take (i := 11) (v := ?_) rfl (by kernel_rfl) (by kernel_rfl) (by kernel_rfl) (fun _ _ _ h => h) (Or.inl ⟨by rfl, ?_⟩) (by assumption) ?_
      rotate_left
      · intro w hSw
        go_simp
        try with_reducible rfl
      simp only [Act.put, List.getElem_toArray, List.getElem_cons_zero, List.getElem_cons_succ, List.setIfInBounds_toArray, List.set_cons_zero, List.set_cons_succ]
      refine wpAnyH_ready (rs := [12]) (by kernel_rfl) (by simp) ?_
      refine AllReadyH.cons rfl (fun K hK => ?_) AllReadyH.nil
      go_simp
      refine (CT.out _ hHeld.1).mono ?_
      rintro e w13 ⟨rfl, b13⟩
      refine hK.out _ _ (⟨hHeld.1.trans (b13.mono hHeld.1.size), oct (blk_on KX.out (hHeld.1.trans (b13.mono hHeld.1.size))), oct (blk_on KY.out (hHeld.1.trans (b13.mono hHeld.1.size))), two_cells (blk_on KQ.out (hHeld.1.trans (b13.mono hHeld.1.size)))⟩) (fun hHeld => ?_)
      clear hK K 
      clear b13 CT CO
      refine wpAnyH_take (i := 13) (v := ?_) rfl (by kernel_rfl) (by kernel_rfl) (by kernel_rfl) (fun _ _ _ h => h) (Or.inl ⟨by rfl, ?_⟩) (by assumption) ?_
      rotate_left
      · intro w hSw
        go_simp
        try with_reducible rfl
      simp only [Act.put, List.getElem_toArray, List.getElem_cons_zero, List.getElem_cons_succ, List.setIfInBounds_toArray, List.set_cons_zero, List.set_cons_succ]
      refine wpAnyH_take (i := 14) (v := ?_) rfl (by kernel_rfl) (by kernel_rfl) (by kernel_rfl) (fun _ _ _ h => h) (Or.inl ⟨by rfl, ?_⟩) (by assumption) ?_
      rotate_left
      · intro w hSw
        go_simp
        try with_reducible rfl
      simp only [Act.put, List.getElem_toArray, List.getElem_cons_zero, List.getElem_cons_succ, List.setIfInBounds_toArray, List.set_cons_zero, List.set_cons_succ]
      refine wpAnyH_done (by kernel_rfl) ?_ _
      have BB := aside (B9.out.trans (hHeld.1.mono B9.out.size))
      clear hHeld
      go_wp2
      go_ret
      exact ⟨rfl, BB.out⟩
end Go.Proofs.YtpbkjffiohfkcaaDoor

/-
  Compare where both hold the same.
  Print.
-/
import Derived.Test.YtpbkjffiohfkcabGreatDoorBs28
namespace Go.Proofs.YtpbkjffiohfkcabGreatDoor
open Go.RowKit
set_option linter.unusedVariables false
/-- Whether they are of a Config. -/
def inB (b l : Int) : Bool := decide (2 ≤ b ∧ b ≤ 16 ∧ 1 ≤ l ∧ l ≤ 32)
set_option maxHeartbeats 3200000 in
set_option maxRecDepth 100000 in
theorem inb_any (b l : Int) (w : World) : Calls Tryz.prog 19 #[.int .i64 b, .int .i64 l] w fun e w' => e = .returned (.bool (inB b l)) ∧ Below w.heap.size w w' := by
  by_cases h1 : 2 ≤ b
  · by_cases h2 : b ≤ 16
    · by_cases h3 : 1 ≤ l
      · by_cases h4 : l ≤ 32
        · rw [show inB b l = true from by unfold inB; simp; omega]
          go_enter Tryz.func19, Tryz.ntmps19
          go_wp2
          go_ret
          exact ⟨rfl, Below.refl _ _⟩
        · rw [show inB b l = false from by unfold inB; simp; omega]
          go_enter Tryz.func19, Tryz.ntmps19
          go_wp2
          go_ret
          exact ⟨rfl, Below.refl _ _⟩
      · rw [show inB b l = false from by unfold inB; simp; omega]
        go_enter Tryz.func19, Tryz.ntmps19
        go_wp2
        go_ret
        exact ⟨rfl, Below.refl _ _⟩
    · rw [show inB b l = false from by unfold inB; simp; omega]
      go_enter Tryz.func19, Tryz.ntmps19
      go_wp2
      go_ret
      exact ⟨rfl, Below.refl _ _⟩
  · rw [show inB b l = false from by unfold inB; simp; omega]
    go_enter Tryz.func19, Tryz.ntmps19
    go_wp2
    go_ret
    exact ⟨rfl, Below.refl _ _⟩
set_option maxHeartbeats 3200000 in
set_option maxRecDepth 100000 in
theorem compare_same (b lf : Int) (p : Pm) {w : World} {sb g tb : Nat} {nd ck : Int} {Ls : List En} (h : Sto w sb g tb nd ck Ls) (L : Lanes w) (hl : Ls.length ≤ 1000000) (hn : (foldV p.lo p.hi p.op Ls).n = p.cnt) (ha : (foldV p.lo p.hi p.op Ls).a = p.s0) (hb : (foldV p.lo p.hi p.op Ls).b = p.s1) :
    Calls Tryz.prog 21 #[.pointer (some ⟨sb, 0, none⟩), .int .i64 b, .int .i64 lf, .agg #[.int .i64 p.kind, .string p.lo, .string p.hi, .bool p.op, .int .i64 p.cnt, .int .u64 p.s0, .int .u64 p.s1, .slice p.ea p.el p.ec]] w fun e w' => e = .returned (.slice none 0 0) ∧ Sto w' sb g tb nd ck Ls ∧ Keeps (Of sb g tb) w w' ∧ Lanes w' := by
  have BX := aside (bnew w (.cells #[.int .i64 p.kind, .string p.lo, .string p.hi, .bool p.op, .int .i64 p.cnt, .int .u64 p.s0, .int .u64 p.s1, .slice p.ea p.el p.ec] 34))
  have KX := aside (heap_alloc_new w (.cells #[.int .i64 p.kind, .string p.lo, .string p.hi, .bool p.op, .int .i64 p.cnt, .int .u64 p.s0, .int .u64 p.s1, .slice p.ea p.el p.ec] 34))
  have HX := aside (h.below BX.out)
  have CF := aside (printOf_any p.lo p.hi p.op HX.out (L.keep BX.out) hl)
  rw [hn, ha, hb] at CF
  clear h L hl hn ha hb
  obtain ⟨pb, hpb⟩ : ∃ pb, w.heap.size = pb := ⟨_, rfl⟩
  rw [hpb] at KX
  obtain ⟨X, hX⟩ : ∃ X, w.alloc (.cells #[.int .i64 p.kind, .string p.lo, .string p.hi, .bool p.op, .int .i64 p.cnt, .int .u64 p.s0, .int .u64 p.s1, .slice p.ea p.el p.ec] 34) = X := ⟨_, rfl⟩
  rw [hX] at BX KX HX CF
  obtain ⟨p0, p1, p2, p3, p4, p5, p6, p7⟩ := oct KX.out
  go_enter Tryz.func21, Tryz.ntmps21
  go_wp2_with fail
  refine CF.out.mono ?_
  rintro e w1 ⟨rfl, s1, k1, l1⟩
  have K1 := aside (blk_on (blk_keep KX.out k1 (HX.out.not KX.out (by decide) (by decide) (by decide))) (bnew w1 (.cells #[.int .i64 p.cnt, .int .u64 p.s0, .int .u64 p.s1] 32)))
  have KT := aside (heap_alloc_new w1 (.cells #[.int .i64 p.cnt, .int .u64 p.s0, .int .u64 p.s1] 32))
  have S1 := aside (s1.below (bnew w1 (.cells #[.int .i64 p.cnt, .int .u64 p.s0, .int .u64 p.s1] 32)))
  have L1 := aside (l1.keep (bnew w1 (.cells #[.int .i64 p.cnt, .int .u64 p.s0, .int .u64 p.s1] 32)))
  have KK := aside (((Keeps.of_below BX.out _).trans k1).alloc (.cells #[.int .i64 p.cnt, .int .u64 p.s0, .int .u64 p.s1] 32))
  clear s1 l1 k1 CF HX BX KX p0 p1 p2 p3 p4 p5 p6 p7 hX
  obtain ⟨tb2, htb⟩ : ∃ tb2, w1.heap.size = tb2 := ⟨_, rfl⟩
  rw [htb] at KT
  obtain ⟨X2, hX2⟩ : ∃ X2, w1.alloc (.cells #[.int .i64 p.cnt, .int .u64 p.s0, .int .u64 p.s1] 32) = X2 := ⟨_, rfl⟩
  rw [hX2] at K1 KT S1 L1 KK
  obtain ⟨p0, p1, p2, p3, p4, p5, p6, p7⟩ := oct K1.out
  obtain ⟨t0, t1, t2⟩ := box3r KT.out
  have SQ : ∀ W, (binOp .eql 32 (.agg #[.int .i64 p.cnt, .int .u64 p.s0, .int .u64 p.s1]) (.agg #[.int .i64 p.cnt, .int .u64 p.s0, .int .u64 p.s1])).run Tryz.prog W = .ok (.bool true) W := fun W => tal_same _ _ _ W
  have FD : ∀ W, (Instr.field 34 (.agg #[.int .i64 1, .string p.lo, .string p.hi, .bool p.op, .int .i64 p.cnt, .int .u64 p.s0, .int .u64 p.s1, .slice none 0 0]) 2).run Tryz.prog W = .ok (.agg #[.int .i64 p.cnt, .int .u64 p.s0, .int .u64 p.s1]) W := fun W => by first | rfl | kernel_rfl
  go_wp2
  go_ret
  exact ⟨rfl, S1.out, KK.out, L1.out⟩
set_option maxHeartbeats 3200000 in
set_option maxRecDepth 100000 in
theorem Compare_same (b lf : Int) (p : Pm) {w : World} {sb g tb : Nat} {nd ck : Int} {Ls : List En} (h : Sto w sb g tb nd ck Ls) (L : Lanes w) (hl : Ls.length ≤ 1000000) (hn : (foldV p.lo p.hi p.op Ls).n = p.cnt) (ha : (foldV p.lo p.hi p.op Ls).a = p.s0) (hb : (foldV p.lo p.hi p.op Ls).b = p.s1) (hI : inB b lf = true) (hP : p.In w) (hk : p.kind = 1) (hC : psChk (fun _ => p) 1 = 0) (hz : p.el ≤ 1000000) :
    Calls Tryz.prog 10 #[.pointer (some ⟨sb, 0, none⟩), .int .i64 b, .int .i64 lf, .agg #[.int .i64 p.kind, .string p.lo, .string p.hi, .bool p.op, .int .i64 p.cnt, .int .u64 p.s0, .int .u64 p.s1, .slice p.ea p.el p.ec]] w fun e w' => e = .returned (.tuple #[.slice none 0 0, .int .i64 0]) ∧ Sto w' sb g tb nd ck Ls ∧ Keeps (Of sb g tb) w w' ∧ Lanes w' := by
  have BX := aside (bnew w (.cells #[.int .i64 p.kind, .string p.lo, .string p.hi, .bool p.op, .int .i64 p.cnt, .int .u64 p.s0, .int .u64 p.s1, .slice p.ea p.el p.ec] 34))
  have KX := aside (heap_alloc_new w (.cells #[.int .i64 p.kind, .string p.lo, .string p.hi, .bool p.op, .int .i64 p.cnt, .int .u64 p.s0, .int .u64 p.s1, .slice p.ea p.el p.ec] 34))
  have CI := aside (fun W => inb_any b lf W)
  rw [hI] at CI
  have CM := aside (fun W (hs : Sto W sb g tb nd ck Ls) (hL : Lanes W) => compare_same b lf p hs hL hl hn ha hb)
  have CK := aside (fun (W : World) (bb : Below w.heap.size w W) => parts_any (some ⟨W.heap.size, 0, none⟩) 1 1 (fun _ => p) (W.alloc (.cells #[.int .i64 p.kind, .string p.lo, .string p.hi, .bool p.op, .int .i64 p.cnt, .int .u64 p.s0, .int .u64 p.s1, .slice p.ea p.el p.ec] 34)) ⟨Nat.le_refl _, by unfold maxLen; omega, .inr ⟨W.heap.size, 0, rfl, by simp, fun i hi => ⟨by
    obtain rfl : i = 0 := by omega
    exact oct (heap_alloc_new W (.cells #[.int .i64 p.kind, .string p.lo, .string p.hi, .bool p.op, .int .i64 p.cnt, .int .u64 p.s0, .int .u64 p.s1, .slice p.ea p.el p.ec] 34)), hP.keep (bthen bb (bnew W _))⟩⟩⟩ (by simp only [totE]; omega))
  have H := aside h
  have LL := aside L
  have HK := aside (show (p.kind == 1) = true by simpa using hk)
  rw [hC] at CK
  clear h L hl hn ha hb hI hP hC hz hk
  obtain ⟨pb, hpb⟩ : ∃ pb, w.heap.size = pb := ⟨_, rfl⟩
  rw [hpb] at KX
  obtain ⟨X, hX⟩ : ∃ X, w.alloc (.cells #[.int .i64 p.kind, .string p.lo, .string p.hi, .bool p.op, .int .i64 p.cnt, .int .u64 p.s0, .int .u64 p.s1, .slice p.ea p.el p.ec] 34) = X := ⟨_, rfl⟩
  rw [hX] at BX KX
  go_enter Tryz.func10, Tryz.ntmps10
  go_wp2_with fail
  refine (CI.out _).mono ?_
  rintro e w1 ⟨rfl, b1⟩
  have B1 := aside (bthen BX.out b1)
  have K1 := aside (blk_on KX.out b1)
  clear b1 CI BX KX hX
  obtain ⟨p0, p1, p2, p3, p4, p5, p6, p7⟩ := oct K1.out
  go_wp2_with fail
  refine (CK.out _ B1.out).mono ?_
  rintro e w2 ⟨rfl, b2⟩
  have B2 := aside (bthen B1.out (bthen (bnew w1 _) b2))
  have K2 := aside (blk_on K1.out (bthen (bnew w1 _) b2))
  clear b2 CK B1 K1 p0 p1 p2 p3 p4 p5 p6 p7
  obtain ⟨p0, p1, p2, p3, p4, p5, p6, p7⟩ := oct K2.out
  have S2 := H.out.below B2.out
  have hk := HK.out
  go_wp2_with fail
  clear hk
  refine (CM.out _ S2 (LL.out.keep B2.out)).mono ?_
  rintro e w3 ⟨rfl, s3, k3, l3⟩
  have S3 := aside s3
  have L3 := aside l3
  have K3 := aside ((Keeps.of_below B2.out _).trans k3)
  clear s3 l3 k3 S2 CM p0 p1 p2 p3 p4 p5 p6 p7
  go_wp2
  go_ret2
  exact ⟨rfl, S3.out, K3.out, L3.out⟩
theorem ptN_one (P : Nat → Pm) : ptN P 1 = ptAt P 0 := by
  show (if ptN P 0 ≠ 0 then ptN P 0 else ptAt P 0) = ptAt P 0
  exact if_neg (fun h => h rfl)
/-- What Print tells is a part that may be. -/
theorem pr_chk {lo hi : ByteArray} {op : Bool} {l : List En} (hm : MapL l) (hl : l.length ≤ 256) (hr : prErr ⟨lo, hi, op⟩ = 0) :
    psChk (fun _ => (⟨1, lo, hi, op, (foldV lo hi op l).n, (foldV lo hi op l).a, (foldV lo hi op l).b, none, 0, 0, fun _ => eZ⟩ : Pm)) 1 = 0 := by
  have hc : Rg.chk ⟨lo, hi, op⟩ = 0 := by
    unfold prErr at hr
    by_cases h : Rg.chk ⟨lo, hi, op⟩ = 0
    · exact h
    · rw [if_pos h] at hr; exact absurd hr h
  have he : Rg.emp ⟨lo, hi, op⟩ = false := by
    unfold prErr at hr
    rw [if_neg (by simp [hc])] at hr
    cases h : Rg.emp ⟨lo, hi, op⟩
    · rfl
    · rw [h] at hr; simp at hr
  have hf := fold_out (lo := lo) (hi := hi) (op := op) hm
  have hlen := Nat.le_trans (out_len (r := ⟨lo, hi, op⟩) (l := l) (Rg.chk ⟨lo, hi, op⟩)) hl
  rw [hf]
  generalize outL (Rg.chk ⟨lo, hi, op⟩) (inL ⟨lo, hi, op⟩ l) = m at *
  have hn := tal_n m (by omega)
  have ht : tlChk (talL m).n (talL m).a (talL m).b = 0 := by
    unfold tlChk
    rw [if_neg (by rw [hn]; omega)]
    by_cases h0 : m = []
    · subst h0
      rw [if_neg (by rw [talL_nil]; exact fun h => h.2 ⟨rfl, rfl⟩)]
    · rw [if_neg (by rw [hn]; intro h; exact h0 (List.eq_nil_of_length_eq_zero (by omega)))]
  unfold psChk
  rw [if_neg (by simp [totE]), ptN_one]
  unfold ptAt
  show Pm.chk _ ⟨#[]⟩ false = 0
  unfold Pm.chk
  rw [if_neg (by simp [Pm.alone]), if_neg (by simp [Pm.rg, hc]), if_neg (by simp [Pm.rg, he, kLt_none]), if_pos rfl]
  exact ht
end Go.Proofs.YtpbkjffiohfkcabGreatDoor
namespace Go.Proofs.YtpbkjffiohfkcabGreatDoor
open Go.RowKit
set_option linter.unusedVariables false
set_option maxHeartbeats 6400000 in
set_option maxRecDepth 100000 in
theorem print_any (lo hi : ByteArray) (op : Bool) {w : World} {sb g tb : Nat} {nd ck : Int} {Ls : List En} (h : Sto w sb g tb nd ck Ls) (L : Lanes w) (hl : Ls.length ≤ 1000000) :
    Calls Tryz.prog 9 #[.pointer (some ⟨sb, 0, none⟩), .agg #[.string lo, .string hi, .bool op]] w fun e w' => e = .returned (.tuple #[prV lo hi op (foldV lo hi op Ls) (prErr ⟨lo, hi, op⟩), .int .i64 (prErr ⟨lo, hi, op⟩)]) ∧ Sto w' sb g tb nd ck Ls ∧ Keeps (Of sb g tb) w w' ∧ Lanes w' := by
  obtain ⟨c, hc⟩ : ∃ c, Rg.chk ⟨lo, hi, op⟩ = c := ⟨_, rfl⟩
  obtain ⟨m, hm⟩ : ∃ m, Rg.emp ⟨lo, hi, op⟩ = m := ⟨_, rfl⟩
  have HP := aside (show prErr ⟨lo, hi, op⟩ = if c ≠ 0 then c else if m = true then 115 else 0 by unfold prErr; rw [hc, hm])
  have CC := aside (fun W => check_at hc W)
  have CE := aside (fun W => empty_any lo hi op W)
  rw [hm] at CE
  have BX := aside (bthen (bnew w (.cells #[.string lo, .string hi, .bool op] 24)) (bnew _ (.cells #[.int .i64 0, .string ⟨#[]⟩, .string ⟨#[]⟩, .bool false, .int .i64 0, .int .u64 0, .int .u64 0, .slice none 0 0] 34)))
  have KR0 := aside (blk_on (heap_alloc_new w (.cells #[.string lo, .string hi, .bool op] 24)) (bnew _ (.cells #[.int .i64 0, .string ⟨#[]⟩, .string ⟨#[]⟩, .bool false, .int .i64 0, .int .u64 0, .int .u64 0, .slice none 0 0] 34)))
  have KZ := aside (heap_alloc_new (w.alloc (.cells #[.string lo, .string hi, .bool op] 24)) (.cells #[.int .i64 0, .string ⟨#[]⟩, .string ⟨#[]⟩, .bool false, .int .i64 0, .int .u64 0, .int .u64 0, .slice none 0 0] 34))
  rw [World.size_alloc] at KZ
  have CP := aside (fun W (hs : Sto W sb g tb nd ck Ls) (hL : Lanes W) => printOf_any lo hi op hs hL hl)
  have H := aside h
  have LL := aside L
  generalize foldV lo hi op Ls = t at *
  clear h L hl hc hm
  by_cases h0 : c = 0
  · subst h0
    cases m with
    | true =>
      rw [show prErr ⟨lo, hi, op⟩ = 115 from by rw [HP.out]; simp, show prV lo hi op t 115 = .agg #[.int .i64 0, .string ⟨#[]⟩, .string ⟨#[]⟩, .bool false, .int .i64 0, .int .u64 0, .int .u64 0, .slice none 0 0] from by unfold prV; rw [if_neg (by decide)]]
      go_enter Tryz.func9, Tryz.ntmps9
      go_wp2_with fail
      refine (CC.out _).mono ?_
      rintro e w1 ⟨rfl, b1⟩
      have B1 := aside (bthen BX.out b1)
      have KR1 := aside (blk_on KR0.out b1)
      have KZ1 := aside (blk_on KZ.out b1)
      clear b1 KR0 KZ BX
      obtain ⟨fb, hfb⟩ : ∃ fb, w.heap.size = fb := ⟨_, rfl⟩
      rw [hfb] at KR1 KZ1 ⊢
      have HNL : ¬ fb + 1 < w.heap.size := by omega
      have HL0 : ¬ 0 = fb + 1 := by omega
      obtain ⟨r0, r1, r2⟩ := box3r KR1.out
      go_wp2_with fail
      refine (CE.out _).mono ?_
      rintro e w2 ⟨rfl, b2⟩
      have B2 := aside (bthen B1.out b2)
      have KR2 := aside (blk_on KR1.out b2)
      have KZ2 := aside (blk_on KZ1.out b2)
      clear b2 KR1 KZ1 B1 r0 r1 r2
      obtain ⟨r0, r1, r2⟩ := box3r KR2.out
      clear CP CE CC
      go_upto_region 5 with fail
      clear r0 r1 r2
      have KA := aside (Keeps.of_below B2.out (Of sb g tb))
      have SA := aside (H.out.below B2.out)
      have LA := aside (LL.out.keep B2.out)
      obtain ⟨a0, a1, a2, a3, a4, a5, a6, a7, hkz⟩ : ∃ a0 a1 a2 a3 a4 a5 a6 a7 : Value, w2.heap[fb + 1]? = some (Obj.cells #[a0, a1, a2, a3, a4, a5, a6, a7] 34 (0, 0)) := ⟨_, _, _, _, _, _, _, _, KZ2.out⟩
      clear KZ2
      have KZ2 := aside hkz
      clear hkz
      obtain ⟨z0, z1, z2, z3, z4, z5, z6, z7⟩ := oct8 KZ2.out
      have y0 := frozen_of_row _ _ 0 _ _ KZ2.out
      have y1 := frozen_of_row _ _ 1 _ _ KZ2.out
      have y2 := frozen_of_row _ _ 2 _ _ KZ2.out
      have y3 := frozen_of_row _ _ 3 _ _ KZ2.out
      have y4 := frozen_of_row _ _ 4 _ _ KZ2.out
      have y5 := frozen_of_row _ _ 5 _ _ KZ2.out
      have y6 := frozen_of_row _ _ 6 _ _ KZ2.out
      have y7 := frozen_of_row _ _ 7 _ _ KZ2.out
      have KR := (set_in 7 (.slice none 0 0) (set_in 6 (.int .u64 0) (set_in 5 (.int .u64 0) (set_in 4 (.int .i64 0) (set_in 3 (.bool false) (set_in 2 (.string ⟨#[]⟩) (set_in 1 (.string ⟨#[]⟩) (set_in 0 (.int .i64 0) KZ2.out))))))))
      simp only [List.setIfInBounds_toArray, List.set_cons_zero, List.set_cons_succ] at KR
      have HKR := aside KR
      clear KR
      have KF := aside (((((((((Keeps.refl (fun x => x = fb + 1) w2).setCell (p := ⟨fb + 1, 0, none⟩) (fun _ => rfl) (.int .i64 0)).setCell (p := ⟨fb + 1, 1, none⟩) (fun _ => rfl) (.string ⟨#[]⟩)).setCell (p := ⟨fb + 1, 2, none⟩) (fun _ => rfl) (.string ⟨#[]⟩)).setCell (p := ⟨fb + 1, 3, none⟩) (fun _ => rfl) (.bool false)).setCell (p := ⟨fb + 1, 4, none⟩) (fun _ => rfl) (.int .i64 0)).setCell (p := ⟨fb + 1, 5, none⟩) (fun _ => rfl) (.int .u64 0)).setCell (p := ⟨fb + 1, 6, none⟩) (fun _ => rfl) (.int .u64 0)).setCell (p := ⟨fb + 1, 7, none⟩) (fun _ => rfl) (.slice none 0 0))
      have KW := aside ((((((((KA.out.setCell (p := ⟨fb + 1, 0, none⟩) (fun hh => absurd hh HNL) (.int .i64 0)).setCell (p := ⟨fb + 1, 1, none⟩) (fun hh => absurd hh HNL) (.string ⟨#[]⟩)).setCell (p := ⟨fb + 1, 2, none⟩) (fun hh => absurd hh HNL) (.string ⟨#[]⟩)).setCell (p := ⟨fb + 1, 3, none⟩) (fun hh => absurd hh HNL) (.bool false)).setCell (p := ⟨fb + 1, 4, none⟩) (fun hh => absurd hh HNL) (.int .i64 0)).setCell (p := ⟨fb + 1, 5, none⟩) (fun hh => absurd hh HNL) (.int .u64 0)).setCell (p := ⟨fb + 1, 6, none⟩) (fun hh => absurd hh HNL) (.int .u64 0)).setCell (p := ⟨fb + 1, 7, none⟩) (fun hh => absurd hh HNL) (.slice none 0 0))
      have SF := aside (SA.out.set KZ2.out (by decide) (by decide) (by decide) (by decide) KF.out)
      have LF := aside (LA.out.keeps KF.out (fun e => HL0 e))
      go_wp2
      obtain ⟨r0, r1, r2, r3, r4, r5, r6, r7⟩ := oct8 HKR.out
      exact bodyPost_ret (v := .tuple #[.agg #[.int .i64 0, .string ⟨#[]⟩, .string ⟨#[]⟩, .bool false, .int .i64 0, .int .u64 0, .int .u64 0, .slice none 0 0], .int .i64 115]) (by simp [results, Tryz.results9, go_sem, r0, r1, r2, r3, r4, r5, r6, r7]) rfl ⟨rfl, SF.out, KW.out, LF.out⟩
    | false =>
      rw [show prErr ⟨lo, hi, op⟩ = 0 from by rw [HP.out]; simp, show prV lo hi op t 0 = .agg #[.int .i64 1, .string lo, .string hi, .bool op, .int .i64 t.n, .int .u64 t.a, .int .u64 t.b, .slice none 0 0] from by unfold prV; rw [if_pos rfl]]
      go_enter Tryz.func9, Tryz.ntmps9
      go_wp2_with fail
      refine (CC.out _).mono ?_
      rintro e w1 ⟨rfl, b1⟩
      have B1 := aside (bthen BX.out b1)
      have KR1 := aside (blk_on KR0.out b1)
      have KZ1 := aside (blk_on KZ.out b1)
      clear b1 KR0 KZ BX
      obtain ⟨fb, hfb⟩ : ∃ fb, w.heap.size = fb := ⟨_, rfl⟩
      rw [hfb] at KR1 KZ1 ⊢
      have HNL : ¬ fb + 1 < w.heap.size := by omega
      have HL0 : ¬ 0 = fb + 1 := by omega
      obtain ⟨r0, r1, r2⟩ := box3r KR1.out
      go_wp2_with fail
      refine (CE.out _).mono ?_
      rintro e w2 ⟨rfl, b2⟩
      have B2 := aside (bthen B1.out b2)
      have KR2 := aside (blk_on KR1.out b2)
      have KZ2 := aside (blk_on KZ1.out b2)
      clear b2 KR1 KZ1 B1 r0 r1 r2
      obtain ⟨r0, r1, r2⟩ := box3r KR2.out
      clear CE CC
      go_wp2_with fail
      have S2 := H.out.below B2.out
      refine (CP.out _ S2 (LL.out.keep B2.out)).mono ?_
      rintro e w3 ⟨rfl, s3, k3, l3⟩
      have KZ3 := aside (blk_keep KZ2.out k3 (S2.not KZ2.out (by decide) (by decide) (by decide)))
      have SA := aside s3
      have LA := aside l3
      have KA := aside ((Keeps.of_below B2.out _).trans k3)
      clear s3 k3 l3 S2 CP KZ2 KR2 B2 r0 r1 r2
      obtain ⟨a0, a1, a2, a3, a4, a5, a6, a7, hkz⟩ : ∃ a0 a1 a2 a3 a4 a5 a6 a7 : Value, w3.heap[fb + 1]? = some (Obj.cells #[a0, a1, a2, a3, a4, a5, a6, a7] 34 (0, 0)) := ⟨_, _, _, _, _, _, _, _, KZ3.out⟩
      clear KZ3
      have KZ3 := aside hkz
      clear hkz
      obtain ⟨z0, z1, z2, z3, z4, z5, z6, z7⟩ := oct8 KZ3.out
      have y0 := frozen_of_row _ _ 0 _ _ KZ3.out
      have y1 := frozen_of_row _ _ 1 _ _ KZ3.out
      have y2 := frozen_of_row _ _ 2 _ _ KZ3.out
      have y3 := frozen_of_row _ _ 3 _ _ KZ3.out
      have y4 := frozen_of_row _ _ 4 _ _ KZ3.out
      have y5 := frozen_of_row _ _ 5 _ _ KZ3.out
      have y6 := frozen_of_row _ _ 6 _ _ KZ3.out
      have y7 := frozen_of_row _ _ 7 _ _ KZ3.out
      have KR := (set_in 7 (.slice none 0 0) (set_in 6 (.int .u64 t.b) (set_in 5 (.int .u64 t.a) (set_in 4 (.int .i64 t.n) (set_in 3 (.bool op) (set_in 2 (.string hi) (set_in 1 (.string lo) (set_in 0 (.int .i64 1) KZ3.out))))))))
      simp only [List.setIfInBounds_toArray, List.set_cons_zero, List.set_cons_succ] at KR
      have HKR := aside KR
      clear KR
      have KF := aside (((((((((Keeps.refl (fun x => x = fb + 1) w3).setCell (p := ⟨fb + 1, 0, none⟩) (fun _ => rfl) (.int .i64 1)).setCell (p := ⟨fb + 1, 1, none⟩) (fun _ => rfl) (.string lo)).setCell (p := ⟨fb + 1, 2, none⟩) (fun _ => rfl) (.string hi)).setCell (p := ⟨fb + 1, 3, none⟩) (fun _ => rfl) (.bool op)).setCell (p := ⟨fb + 1, 4, none⟩) (fun _ => rfl) (.int .i64 t.n)).setCell (p := ⟨fb + 1, 5, none⟩) (fun _ => rfl) (.int .u64 t.a)).setCell (p := ⟨fb + 1, 6, none⟩) (fun _ => rfl) (.int .u64 t.b)).setCell (p := ⟨fb + 1, 7, none⟩) (fun _ => rfl) (.slice none 0 0))
      have KW := aside ((((((((KA.out.setCell (p := ⟨fb + 1, 0, none⟩) (fun hh => absurd hh HNL) (.int .i64 1)).setCell (p := ⟨fb + 1, 1, none⟩) (fun hh => absurd hh HNL) (.string lo)).setCell (p := ⟨fb + 1, 2, none⟩) (fun hh => absurd hh HNL) (.string hi)).setCell (p := ⟨fb + 1, 3, none⟩) (fun hh => absurd hh HNL) (.bool op)).setCell (p := ⟨fb + 1, 4, none⟩) (fun hh => absurd hh HNL) (.int .i64 t.n)).setCell (p := ⟨fb + 1, 5, none⟩) (fun hh => absurd hh HNL) (.int .u64 t.a)).setCell (p := ⟨fb + 1, 6, none⟩) (fun hh => absurd hh HNL) (.int .u64 t.b)).setCell (p := ⟨fb + 1, 7, none⟩) (fun hh => absurd hh HNL) (.slice none 0 0))
      have SF := aside (SA.out.set KZ3.out (by decide) (by decide) (by decide) (by decide) KF.out)
      have LF := aside (LA.out.keeps KF.out (fun e => HL0 e))
      go_wp2
      obtain ⟨r0, r1, r2, r3, r4, r5, r6, r7⟩ := oct8 HKR.out
      exact bodyPost_ret (v := .tuple #[.agg #[.int .i64 1, .string lo, .string hi, .bool op, .int .i64 t.n, .int .u64 t.a, .int .u64 t.b, .slice none 0 0], .int .i64 0]) (by simp [results, Tryz.results9, go_sem, r0, r1, r2, r3, r4, r5, r6, r7]) rfl ⟨rfl, SF.out, KW.out, LF.out⟩
  · have hb : (c == 0) = false := by simpa using h0
    have HQ := aside h0
    rw [show prErr ⟨lo, hi, op⟩ = c from by rw [HP.out, if_pos h0], show prV lo hi op t c = .agg #[.int .i64 0, .string ⟨#[]⟩, .string ⟨#[]⟩, .bool false, .int .i64 0, .int .u64 0, .int .u64 0, .slice none 0 0] from by unfold prV; rw [if_neg h0]]
    go_enter Tryz.func9, Tryz.ntmps9
    go_wp2_with fail
    refine (CC.out _).mono ?_
    rintro e w1 ⟨rfl, b1⟩
    have B1 := aside (bthen BX.out b1)
    have KR1 := aside (blk_on KR0.out b1)
    have KZ1 := aside (blk_on KZ.out b1)
    clear b1 KR0 KZ BX
    obtain ⟨fb, hfb⟩ : ∃ fb, w.heap.size = fb := ⟨_, rfl⟩
    rw [hfb] at KR1 KZ1 ⊢
    have HNL : ¬ fb + 1 < w.heap.size := by omega
    have HL0 : ¬ 0 = fb + 1 := by omega
    obtain ⟨r0, r1, r2⟩ := box3r KR1.out
    clear CP CE CC
    go_upto_region 3 with fail
    clear r0 r1 r2
    have KA := aside (Keeps.of_below B1.out (Of sb g tb))
    have SA := aside (H.out.below B1.out)
    have LA := aside (LL.out.keep B1.out)
    obtain ⟨a0, a1, a2, a3, a4, a5, a6, a7, hkz⟩ : ∃ a0 a1 a2 a3 a4 a5 a6 a7 : Value, w1.heap[fb + 1]? = some (Obj.cells #[a0, a1, a2, a3, a4, a5, a6, a7] 34 (0, 0)) := ⟨_, _, _, _, _, _, _, _, KZ1.out⟩
    clear KZ1
    have KZ1 := aside hkz
    clear hkz
    obtain ⟨z0, z1, z2, z3, z4, z5, z6, z7⟩ := oct8 KZ1.out
    have y0 := frozen_of_row _ _ 0 _ _ KZ1.out
    have y1 := frozen_of_row _ _ 1 _ _ KZ1.out
    have y2 := frozen_of_row _ _ 2 _ _ KZ1.out
    have y3 := frozen_of_row _ _ 3 _ _ KZ1.out
    have y4 := frozen_of_row _ _ 4 _ _ KZ1.out
    have y5 := frozen_of_row _ _ 5 _ _ KZ1.out
    have y6 := frozen_of_row _ _ 6 _ _ KZ1.out
    have y7 := frozen_of_row _ _ 7 _ _ KZ1.out
    have KR := (set_in 7 (.slice none 0 0) (set_in 6 (.int .u64 0) (set_in 5 (.int .u64 0) (set_in 4 (.int .i64 0) (set_in 3 (.bool false) (set_in 2 (.string ⟨#[]⟩) (set_in 1 (.string ⟨#[]⟩) (set_in 0 (.int .i64 0) KZ1.out))))))))
    simp only [List.setIfInBounds_toArray, List.set_cons_zero, List.set_cons_succ] at KR
    have HKR := aside KR
    clear KR
    have KF := aside (((((((((Keeps.refl (fun x => x = fb + 1) w1).setCell (p := ⟨fb + 1, 0, none⟩) (fun _ => rfl) (.int .i64 0)).setCell (p := ⟨fb + 1, 1, none⟩) (fun _ => rfl) (.string ⟨#[]⟩)).setCell (p := ⟨fb + 1, 2, none⟩) (fun _ => rfl) (.string ⟨#[]⟩)).setCell (p := ⟨fb + 1, 3, none⟩) (fun _ => rfl) (.bool false)).setCell (p := ⟨fb + 1, 4, none⟩) (fun _ => rfl) (.int .i64 0)).setCell (p := ⟨fb + 1, 5, none⟩) (fun _ => rfl) (.int .u64 0)).setCell (p := ⟨fb + 1, 6, none⟩) (fun _ => rfl) (.int .u64 0)).setCell (p := ⟨fb + 1, 7, none⟩) (fun _ => rfl) (.slice none 0 0))
    have KW := aside ((((((((KA.out.setCell (p := ⟨fb + 1, 0, none⟩) (fun hh => absurd hh HNL) (.int .i64 0)).setCell (p := ⟨fb + 1, 1, none⟩) (fun hh => absurd hh HNL) (.string ⟨#[]⟩)).setCell (p := ⟨fb + 1, 2, none⟩) (fun hh => absurd hh HNL) (.string ⟨#[]⟩)).setCell (p := ⟨fb + 1, 3, none⟩) (fun hh => absurd hh HNL) (.bool false)).setCell (p := ⟨fb + 1, 4, none⟩) (fun hh => absurd hh HNL) (.int .i64 0)).setCell (p := ⟨fb + 1, 5, none⟩) (fun hh => absurd hh HNL) (.int .u64 0)).setCell (p := ⟨fb + 1, 6, none⟩) (fun hh => absurd hh HNL) (.int .u64 0)).setCell (p := ⟨fb + 1, 7, none⟩) (fun hh => absurd hh HNL) (.slice none 0 0))
    have SF := aside (SA.out.set KZ1.out (by decide) (by decide) (by decide) (by decide) KF.out)
    have LF := aside (LA.out.keeps KF.out (fun e => HL0 e))
    go_wp2
    obtain ⟨r0, r1, r2, r3, r4, r5, r6, r7⟩ := oct8 HKR.out
    exact bodyPost_ret (v := .tuple #[.agg #[.int .i64 0, .string ⟨#[]⟩, .string ⟨#[]⟩, .bool false, .int .i64 0, .int .u64 0, .int .u64 0, .slice none 0 0], .int .i64 c]) (by simp [results, Tryz.results9, go_sem, r0, r1, r2, r3, r4, r5, r6, r7]) rfl ⟨rfl, SF.out, KW.out, LF.out⟩
end Go.Proofs.YtpbkjffiohfkcabGreatDoor

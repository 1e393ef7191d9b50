/-
  First, the document's own.
-/
import Derived.Test.YtfnmpfaecafckaaFeF
namespace Go.Proofs.Ytfnmpfaecafckaa
open Go.RowKit
set_option linter.unusedVariables false

theorem chkR_of {fr tz o l n tn : Int} {a : Option Addr} {len cap : Nat} {P : Nat → Pm} {w : World} (h : PartsIn w a len cap P) {q : Int} (hq : fChk fr tz o l n tn P len = q) :
    Calls Try.prog 21 #[.agg #[.int .i64 fr, .int .i64 tz, .int .i64 o, .int .i64 l, .int .i64 n, .int .i64 tn, .slice a len cap]] w fun e w' => e = .returned (.int .i64 q) ∧ Below w.heap.size w w' := by
  subst hq
  exact chkR_any fr tz o l n tn a len cap P w h

set_option maxHeartbeats 6400000 in
set_option maxRecDepth 100000 in
theorem firstR_any (peer o l n c x z : Int) (w : World) :
    Calls Try.prog 10 #[.int .i64 peer, .agg #[.int .i64 o, .int .i64 l, .int .i64 n], .agg #[.int .i64 c, .int .u64 x, .int .u64 z]] w (TellsF w o peer o l n 0 (fChk o peer o l n 0 (P1 c x z) 1) (P1 c x z) 1) := by
  obtain ⟨q, hq⟩ : ∃ q, fChk o peer o l n 0 (P1 c x z) 1 = q := ⟨_, rfl⟩
  have HQ := aside hq
  rw [hq]
  clear hq
  go_enter Try.func10, Try.ntmps10
  go_upto_region 2 with fail
  have BX := aside (bthen (bthen (bthen (bnew w (.cells #[.int .i64 o, .int .i64 l, .int .i64 n] 23)) (bnew _ (.cells #[.int .i64 c, .int .u64 x, .int .u64 z] 28))) (bnew _ (.cells #[.int .i64 0, .int .i64 0, .int .i64 0, .int .i64 0, .int .i64 0, .int .i64 0, .slice none 0 0] 31))) (bnew _ (.cells #[.int .i64 o, .int .i64 peer, .int .i64 o, .int .i64 l, .int .i64 n, .int .i64 0, .slice none 0 0] 31)))
  have KT := aside (blk_on (blk_on (heap_alloc_new (w.alloc (.cells #[.int .i64 o, .int .i64 l, .int .i64 n] 23)) (.cells #[.int .i64 c, .int .u64 x, .int .u64 z] 28)) (bnew _ (.cells #[.int .i64 0, .int .i64 0, .int .i64 0, .int .i64 0, .int .i64 0, .int .i64 0, .slice none 0 0] 31))) (bnew _ (.cells #[.int .i64 o, .int .i64 peer, .int .i64 o, .int .i64 l, .int .i64 n, .int .i64 0, .slice none 0 0] 31)))
  have KZ := aside (blk_on (heap_alloc_new ((w.alloc (.cells #[.int .i64 o, .int .i64 l, .int .i64 n] 23)).alloc (.cells #[.int .i64 c, .int .u64 x, .int .u64 z] 28)) (.cells #[.int .i64 0, .int .i64 0, .int .i64 0, .int .i64 0, .int .i64 0, .int .i64 0, .slice none 0 0] 31)) (bnew _ (.cells #[.int .i64 o, .int .i64 peer, .int .i64 o, .int .i64 l, .int .i64 n, .int .i64 0, .slice none 0 0] 31)))
  have KF := aside (heap_alloc_new (((w.alloc (.cells #[.int .i64 o, .int .i64 l, .int .i64 n] 23)).alloc (.cells #[.int .i64 c, .int .u64 x, .int .u64 z] 28)).alloc (.cells #[.int .i64 0, .int .i64 0, .int .i64 0, .int .i64 0, .int .i64 0, .int .i64 0, .slice none 0 0] 31)) (.cells #[.int .i64 o, .int .i64 peer, .int .i64 o, .int .i64 l, .int .i64 n, .int .i64 0, .slice none 0 0] 31))
  rw [World.size_alloc] at KT KZ KF
  rw [World.size_alloc] at KZ KF
  rw [World.size_alloc] at KF
  generalize (((w.alloc (.cells #[.int .i64 o, .int .i64 l, .int .i64 n] 23)).alloc (.cells #[.int .i64 c, .int .u64 x, .int .u64 z] 28)).alloc (.cells #[.int .i64 0, .int .i64 0, .int .i64 0, .int .i64 0, .int .i64 0, .int .i64 0, .slice none 0 0] 31)).alloc (.cells #[.int .i64 o, .int .i64 peer, .int .i64 o, .int .i64 l, .int .i64 n, .int .i64 0, .slice none 0 0] 31) = X0 at BX KT KZ KF ⊢
  obtain ⟨t0, t1, t2, -⟩ := tri KT.out
  obtain ⟨-, -, -, -, -, -, f6⟩ := sep7 KF.out
  have fz6 := frozen_of_row _ _ 6 _ _ KF.out
  have BP := aside (bnew X0 (.cells #[.int .i64 1, .string ⟨#[]⟩, .string ⟨#[]⟩, .bool true, .int .i64 c, .int .u64 x, .int .u64 z, .slice none 0 0] 39))
  have HPI := aside (P1_in (heap_alloc_new X0 (.cells #[.int .i64 1, .string ⟨#[]⟩, .string ⟨#[]⟩, .bool true, .int .i64 c, .int .u64 x, .int .u64 z, .slice none 0 0] 39)))
  have ON := aside (World.ownsRow_nil (X0.alloc (.cells #[.int .i64 1, .string ⟨#[]⟩, .string ⟨#[]⟩, .bool true, .int .i64 c, .int .u64 x, .int .u64 z, .slice none 0 0] 39)) (X0.alloc (.cells #[.int .i64 1, .string ⟨#[]⟩, .string ⟨#[]⟩, .bool true, .int .i64 c, .int .u64 x, .int .u64 z, .slice none 0 0] 39)).heap.size 39 8)
  have hlt3 : w.heap.size + 3 < X0.heap.size := (Array.getElem?_eq_some_iff.1 KF.out).1
  have HL3 := aside hlt3
  clear hlt3
  go_wp2_with (at_builtin; refine wpList_plain rfl fun K hK => op_append_parts (V := X0.alloc (.cells #[.int .i64 1, .string ⟨#[]⟩, .string ⟨#[]⟩, .bool true, .int .i64 c, .int .u64 x, .int .u64 z, .slice none 0 0] 39)) _ _ rfl 0 (.slice none 0 0) [] (by rfl) ON.out ⟨X0.heap.size, 0, none⟩ 1 1 (P1 c x z) (by rfl) HPI.out (by omega) (Below.refl _ _) ?_; intro v1 w1 own1 b1 g1; refine hK _ _ ?_; refine Hid.out ?_)
  refine aside ?_
  rw [List.nil_append, Nat.zero_add] at own1
  obtain ⟨g, cp, rfl, hgb⟩ := own_sl own1 (by omega)
  have B1 := aside (bthen BP.out b1)
  have HOW := aside own1
  have HGB := aside (show w.heap.size + 3 < g from by have h1 := HL3.out; rw [World.size_alloc] at hgb; omega)
  have KF1 := aside (blk_on KF.out (bthen BP.out b1))
  clear own1 b1 g1 hgb ON HPI t0 t1 t2 f6 fz6
  obtain ⟨-, -, -, -, -, -, f6⟩ := sep7 KF1.out
  have fz6 := frozen_of_row _ _ 6 _ _ KF1.out
  go_upto_region 3 with fail
  have KF2 := aside (set_in 6 (.slice (some ⟨g, 0, none⟩) 1 cp) KF1.out)
  simp only [List.setIfInBounds_toArray, List.set_cons_zero, List.set_cons_succ] at KF2
  have KZ2 := aside (set_far1 (blk_on KZ.out B1.out) (show w.heap.size + 2 ≠ w.heap.size + 3 by omega) 6 (.slice (some ⟨g, 0, none⟩) 1 cp))
  have HO2 := aside (own_apart (k := 6) HOW.out (w.heap.size + 3) (by have := HGB.out; omega) (.slice (some ⟨g, 0, none⟩) 1 cp))
  have B2 := aside ((bthen BX.out B1.out).setCell (p := ⟨w.heap.size + 3, 6, none⟩) (show w.heap.size ≤ w.heap.size + 3 by omega) (.slice (some ⟨g, 0, none⟩) 1 cp))
  clear f6 fz6 KF1 KF KZ KT HOW B1 BP BX HL3
  generalize w1.setCell ⟨w.heap.size + 3, 6, none⟩ (.slice (some ⟨g, 0, none⟩) 1 cp) = X2 at KF2 KZ2 HO2 B2 ⊢
  have HP2 := aside (parts_of_row HO2.out ((P1_no c x z 1).in_ X2))
  obtain ⟨f0, f1, f2, f3, f4, f5, f6⟩ := sep7 KF2.out
  by_cases h0 : q = 0
  · subst h0
    go_wp2_with fail
    refine (chkR_of HP2.out HQ.out).mono ?_
    rintro e w3 ⟨rfl, b3⟩
    have B3 := aside (bthen B2.out b3)
    have KF3 := aside (blk_on KF2.out b3)
    have KZ3 := aside (blk_on KZ2.out b3)
    have HPN := aside (HP2.out.keep b3)
    clear f0 f1 f2 f3 f4 f5 f6 b3 KF2 KZ2 HO2 HP2 B2
    go_upto_region 6 with fail
    obtain ⟨f0, f1, f2, f3, f4, f5, f6⟩ := sep7 KF3.out
    have HLE : w.heap.size ≤ w.heap.size + 2 := by omega
    obtain ⟨a0, a1, a2, a3, a4, a5, a6, hkz⟩ : ∃ a0 a1 a2 a3 a4 a5 a6 : Value, w3.heap[w.heap.size + 2]? = some (Obj.cells #[a0, a1, a2, a3, a4, a5, a6] 31 (0, 0)) := ⟨_, _, _, _, _, _, _, KZ3.out⟩
    clear KZ3
    have KZ3 := aside hkz
    clear hkz
    obtain ⟨z0, z1, z2, z3, z4, z5, z6⟩ := sep7 KZ3.out
    have y0 := frozen_of_row _ _ 0 _ _ KZ3.out
    have y1 := frozen_of_row _ _ 1 _ _ KZ3.out
    have y2 := frozen_of_row _ _ 2 _ _ KZ3.out
    have y3 := frozen_of_row _ _ 3 _ _ KZ3.out
    have y4 := frozen_of_row _ _ 4 _ _ KZ3.out
    have y5 := frozen_of_row _ _ 5 _ _ KZ3.out
    have y6 := frozen_of_row _ _ 6 _ _ KZ3.out
    have KR := (set_in 6 (.slice (some ⟨g, 0, none⟩) 1 cp) (set_in 5 (.int .i64 0) (set_in 4 (.int .i64 n) (set_in 3 (.int .i64 l) (set_in 2 (.int .i64 o) (set_in 1 (.int .i64 peer) (set_in 0 (.int .i64 o) KZ3.out)))))))
    simp only [List.setIfInBounds_toArray, List.set_cons_zero, List.set_cons_succ] at KR
    have HKR := aside KR
    have BF := aside ((((((((B3.out.setCell (p := ⟨w.heap.size + 2, 0, none⟩) HLE (.int .i64 o)).setCell (p := ⟨w.heap.size + 2, 1, none⟩) HLE (.int .i64 peer)).setCell (p := ⟨w.heap.size + 2, 2, none⟩) HLE (.int .i64 o)).setCell (p := ⟨w.heap.size + 2, 3, none⟩) HLE (.int .i64 l)).setCell (p := ⟨w.heap.size + 2, 4, none⟩) HLE (.int .i64 n)).setCell (p := ⟨w.heap.size + 2, 5, none⟩) HLE (.int .i64 0)).setCell (p := ⟨w.heap.size + 2, 6, none⟩) HLE (.slice (some ⟨g, 0, none⟩) 1 cp)))
    clear KR
    have HPF := aside ((parts_at (k := 6) (parts_at (k := 5) (parts_at (k := 4) (parts_at (k := 3) (parts_at (k := 2) (parts_at (k := 1) (parts_at (k := 0) HPN.out (P1_no c x z 1) (show w.heap.size + 2 ≠ g by have := HGB.out; omega) (.int .i64 o)) (P1_no c x z 1) (show w.heap.size + 2 ≠ g by have := HGB.out; omega) (.int .i64 peer)) (P1_no c x z 1) (show w.heap.size + 2 ≠ g by have := HGB.out; omega) (.int .i64 o)) (P1_no c x z 1) (show w.heap.size + 2 ≠ g by have := HGB.out; omega) (.int .i64 l)) (P1_no c x z 1) (show w.heap.size + 2 ≠ g by have := HGB.out; omega) (.int .i64 n)) (P1_no c x z 1) (show w.heap.size + 2 ≠ g by have := HGB.out; omega) (.int .i64 0)) (P1_no c x z 1) (show w.heap.size + 2 ≠ g by have := HGB.out; omega) (.slice (some ⟨g, 0, none⟩) 1 cp)))
    clear HLE
    go_wp2
    obtain ⟨r0, r1, r2, r3, r4, r5, r6⟩ := sep7 HKR.out
    exact bodyPost_ret (v := .tuple #[.agg #[.int .i64 o, .int .i64 peer, .int .i64 o, .int .i64 l, .int .i64 n, .int .i64 0, .slice (some ⟨g, 0, none⟩) 1 cp], .int .i64 0]) (by simp [results, Try.results10, go_sem, r0, r1, r2, r3, r4, r5, r6]) rfl ⟨BF.out, .inl ⟨by first | rfl | trivial, g, cp, rfl, HPF.out, by have h1 := HGB.out; omega⟩⟩
  · have b0 : (q == 0) = false := by simpa using h0
    have H0 := aside h0
    go_wp2_with fail
    refine (chkR_of HP2.out HQ.out).mono ?_
    rintro e w3 ⟨rfl, b3⟩
    have B3 := aside (bthen B2.out b3)
    have KZ3 := aside (blk_on KZ2.out b3)
    clear f0 f1 f2 f3 f4 f5 f6 b3 KF2 KZ2 HO2 HP2 B2
    go_upto_region 5 with fail
    have HLE : w.heap.size ≤ w.heap.size + 2 := by omega
    obtain ⟨a0, a1, a2, a3, a4, a5, a6, hkz⟩ : ∃ a0 a1 a2 a3 a4 a5 a6 : Value, w3.heap[w.heap.size + 2]? = some (Obj.cells #[a0, a1, a2, a3, a4, a5, a6] 31 (0, 0)) := ⟨_, _, _, _, _, _, _, KZ3.out⟩
    clear KZ3
    have KZ3 := aside hkz
    clear hkz
    obtain ⟨z0, z1, z2, z3, z4, z5, z6⟩ := sep7 KZ3.out
    have y0 := frozen_of_row _ _ 0 _ _ KZ3.out
    have y1 := frozen_of_row _ _ 1 _ _ KZ3.out
    have y2 := frozen_of_row _ _ 2 _ _ KZ3.out
    have y3 := frozen_of_row _ _ 3 _ _ KZ3.out
    have y4 := frozen_of_row _ _ 4 _ _ KZ3.out
    have y5 := frozen_of_row _ _ 5 _ _ KZ3.out
    have y6 := frozen_of_row _ _ 6 _ _ KZ3.out
    have KR := (set_in 6 (.slice none 0 0) (set_in 5 (.int .i64 0) (set_in 4 (.int .i64 0) (set_in 3 (.int .i64 0) (set_in 2 (.int .i64 0) (set_in 1 (.int .i64 0) (set_in 0 (.int .i64 0) KZ3.out)))))))
    simp only [List.setIfInBounds_toArray, List.set_cons_zero, List.set_cons_succ] at KR
    have HKR := aside KR
    have BF := aside ((((((((B3.out.setCell (p := ⟨w.heap.size + 2, 0, none⟩) HLE (.int .i64 0)).setCell (p := ⟨w.heap.size + 2, 1, none⟩) HLE (.int .i64 0)).setCell (p := ⟨w.heap.size + 2, 2, none⟩) HLE (.int .i64 0)).setCell (p := ⟨w.heap.size + 2, 3, none⟩) HLE (.int .i64 0)).setCell (p := ⟨w.heap.size + 2, 4, none⟩) HLE (.int .i64 0)).setCell (p := ⟨w.heap.size + 2, 5, none⟩) HLE (.int .i64 0)).setCell (p := ⟨w.heap.size + 2, 6, none⟩) HLE (.slice none 0 0)))
    clear KR
    clear HLE h0 b0
    go_wp2
    obtain ⟨r0, r1, r2, r3, r4, r5, r6⟩ := sep7 HKR.out
    exact bodyPost_ret (v := .tuple #[.agg #[.int .i64 0, .int .i64 0, .int .i64 0, .int .i64 0, .int .i64 0, .int .i64 0, .slice none 0 0], .int .i64 q]) (by simp [results, Try.results10, go_sem, r0, r1, r2, r3, r4, r5, r6]) rfl ⟨BF.out, .inr ⟨H0.out, rfl⟩⟩

end Go.Proofs.Ytfnmpfaecafckaa

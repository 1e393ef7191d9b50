/-
  Answer to a frame that may be, with parts that have no entries.
-/
import Derived.Test.YtgfblndmblgeeaaLFrFirst
namespace Go.Proofs.Ytgfblndmblgeeaa
open Go.RowKit
set_option linter.unusedVariables false
set_option maxHeartbeats 6400000 in
set_option maxRecDepth 100000 in
theorem answer_ok (fr tz o l n tn : Int) (a : Option Addr) (len cap : Nat) (P : Nat → Pm) (y : Addr) (lq cq : Nat) (Q : Nat → Pm) (w : World) (h : PartsIn w a len cap P) (hT : totE P len ≤ 4611686018427387904) (h0 : fChk fr tz o l n tn P len = 0)
    (hb : 0 ≤ tn ∧ tn ≤ 63) (k : PartsIn w (some y) lq cq Q) (hz : lq * 96 ≤ 140737488351232) (hN : NoEnts Q lq) (hpos : 0 < lq) (kT : totE Q lq ≤ 4611686018427387904) :
    Calls Try.prog 18 #[.agg #[.int .i64 fr, .int .i64 tz, .int .i64 o, .int .i64 l, .int .i64 n, .int .i64 tn, .slice a len cap], .slice (some y) lq cq] w (TellsF w tz fr o l n (tn + 1) (fChk tz fr o l n (tn + 1) Q lq) Q lq) := by
  obtain ⟨q, hq⟩ : ∃ q, fChk tz fr o l n (tn + 1) Q lq = q := ⟨_, rfl⟩
  have C1 := aside (fun W (bb : Below w.heap.size w W) => chkf_of (h.keep bb) hT h0)
  have C2 := aside (fun W (bb : Below w.heap.size w W) => checked_any tz fr o l n (tn + 1) y lq cq Q W (k.keep bb) hz hN hpos kT)
  rw [hq] at C2 ⊢
  have HN := aside hN
  have hw : IntKind.i64.wrap (tn + 1) = tn + 1 := by simp only [IntKind.wrap_i64]; omega
  unfold TellsF at C2 ⊢
  clear h hT h0 hb k hz hN hpos kT hq
  go_enter Try.func18, Try.ntmps18
  go_wp2_with fail
  have BX := aside (bthen (bnew w (.cells #[.int .i64 fr, .int .i64 tz, .int .i64 o, .int .i64 l, .int .i64 n, .int .i64 tn, .slice a len cap] 26)) (bnew _ (.cells #[.int .i64 0, .int .i64 0, .int .i64 0, .int .i64 0, .int .i64 0, .int .i64 0, .slice none 0 0] 26)))
  have KF := aside (blk_on (heap_alloc_new w (.cells #[.int .i64 fr, .int .i64 tz, .int .i64 o, .int .i64 l, .int .i64 n, .int .i64 tn, .slice a len cap] 26)) (bnew _ (.cells #[.int .i64 0, .int .i64 0, .int .i64 0, .int .i64 0, .int .i64 0, .int .i64 0, .slice none 0 0] 26)))
  have KZ := aside (heap_alloc_new (w.alloc (.cells #[.int .i64 fr, .int .i64 tz, .int .i64 o, .int .i64 l, .int .i64 n, .int .i64 tn, .slice a len cap] 26)) (.cells #[.int .i64 0, .int .i64 0, .int .i64 0, .int .i64 0, .int .i64 0, .int .i64 0, .slice none 0 0] 26))
  rw [World.size_alloc] at KZ
  refine (C1.out _ BX.out).mono ?_
  rintro e w1 ⟨rfl, b1⟩
  have B1 := aside (bthen BX.out b1)
  have KF1 := aside (blk_on KF.out b1)
  have KZ1 := aside (blk_on KZ.out b1)
  clear b1 KF KZ BX C1
  obtain ⟨f0, f1, f2, f3, f4, f5, f6⟩ := sep7 KF1.out
  go_wp2_with fail
  refine (C2.out _ B1.out).mono ?_
  rintro e w2 ⟨b2, h2⟩
  have B2 := aside (bthen B1.out b2)
  have KZ2 := aside (blk_on KZ1.out b2)
  have HSZ := aside (show w.heap.size + 1 < w1.heap.size from (Array.getElem?_eq_some_iff.1 KZ1.out).1)
  clear f0 f1 f2 f3 f4 f5 f6 b2 C2 B1 KF1 KZ1 hw
  have HLE : w.heap.size ≤ w.heap.size + 1 := by omega
  rcases h2 with ⟨h0, g, cp, rfl, hp2, hg2⟩ | ⟨h0, rfl⟩
  · have HPN := aside hp2
    have HGB := aside (show w.heap.size + 1 < g from by have h1 := HSZ.out; omega)
    have H0 := aside h0
    clear hp2 hg2 h0
    obtain ⟨a0, a1, a2, a3, a4, a5, a6, hkz⟩ : ∃ a0 a1 a2 a3 a4 a5 a6 : Value, w2.heap[w.heap.size + 1]? = some (Obj.cells #[a0, a1, a2, a3, a4, a5, a6] 26 (0, 0)) := ⟨_, _, _, _, _, _, _, KZ2.out⟩
    clear KZ2
    have KZ2 := aside hkz
    clear hkz
    obtain ⟨z0, z1, z2, z3, z4, z5, z6⟩ := sep7 KZ2.out
    have y0 := frozen_of_row _ _ 0 _ _ KZ2.out
    have y1 := frozen_of_row _ _ 1 _ _ KZ2.out
    have y2 := frozen_of_row _ _ 2 _ _ KZ2.out
    have y3 := frozen_of_row _ _ 3 _ _ KZ2.out
    have y4 := frozen_of_row _ _ 4 _ _ KZ2.out
    have y5 := frozen_of_row _ _ 5 _ _ KZ2.out
    have y6 := frozen_of_row _ _ 6 _ _ KZ2.out
    have KR := (set_in 6 (.slice (some ⟨g, 0, none⟩) lq cp) (set_in 5 (.int .i64 (tn + 1)) (set_in 4 (.int .i64 n) (set_in 3 (.int .i64 l) (set_in 2 (.int .i64 o) (set_in 1 (.int .i64 fr) (set_in 0 (.int .i64 tz) KZ2.out)))))))
    simp only [List.setIfInBounds_toArray, List.set_cons_zero, List.set_cons_succ] at KR
    have HKR := aside KR
    have BF := aside ((((((((B2.out.setCell (p := ⟨w.heap.size + 1, 0, none⟩) HLE (.int .i64 tz)).setCell (p := ⟨w.heap.size + 1, 1, none⟩) HLE (.int .i64 fr)).setCell (p := ⟨w.heap.size + 1, 2, none⟩) HLE (.int .i64 o)).setCell (p := ⟨w.heap.size + 1, 3, none⟩) HLE (.int .i64 l)).setCell (p := ⟨w.heap.size + 1, 4, none⟩) HLE (.int .i64 n)).setCell (p := ⟨w.heap.size + 1, 5, none⟩) HLE (.int .i64 (tn + 1))).setCell (p := ⟨w.heap.size + 1, 6, none⟩) HLE (.slice (some ⟨g, 0, none⟩) lq cp)))
    clear KR
    have HPF := aside ((parts_at (k := 6) (parts_at (k := 5) (parts_at (k := 4) (parts_at (k := 3) (parts_at (k := 2) (parts_at (k := 1) (parts_at (k := 0) HPN.out HN.out (show w.heap.size + 1 ≠ g by have := HGB.out; omega) (.int .i64 tz)) HN.out (show w.heap.size + 1 ≠ g by have := HGB.out; omega) (.int .i64 fr)) HN.out (show w.heap.size + 1 ≠ g by have := HGB.out; omega) (.int .i64 o)) HN.out (show w.heap.size + 1 ≠ g by have := HGB.out; omega) (.int .i64 l)) HN.out (show w.heap.size + 1 ≠ g by have := HGB.out; omega) (.int .i64 n)) HN.out (show w.heap.size + 1 ≠ g by have := HGB.out; omega) (.int .i64 (tn + 1))) HN.out (show w.heap.size + 1 ≠ g by have := HGB.out; omega) (.slice (some ⟨g, 0, none⟩) lq cp)))
    clear HLE
    go_wp2
    obtain ⟨r0, r1, r2, r3, r4, r5, r6⟩ := sep7 HKR.out
    exact bodyPost_ret (v := .tuple #[.agg #[.int .i64 tz, .int .i64 fr, .int .i64 o, .int .i64 l, .int .i64 n, .int .i64 (tn + 1), .slice (some ⟨g, 0, none⟩) lq cp], .int .i64 0]) (by simp [results, Try.results18, go_sem, r0, r1, r2, r3, r4, r5, r6]) rfl ⟨BF.out, .inl ⟨H0.out, g, cp, rfl, HPF.out, by have h1 := HGB.out; omega⟩⟩
  · have H0 := aside h0
    clear h0
    obtain ⟨a0, a1, a2, a3, a4, a5, a6, hkz⟩ : ∃ a0 a1 a2 a3 a4 a5 a6 : Value, w2.heap[w.heap.size + 1]? = some (Obj.cells #[a0, a1, a2, a3, a4, a5, a6] 26 (0, 0)) := ⟨_, _, _, _, _, _, _, KZ2.out⟩
    clear KZ2
    have KZ2 := aside hkz
    clear hkz
    obtain ⟨z0, z1, z2, z3, z4, z5, z6⟩ := sep7 KZ2.out
    have y0 := frozen_of_row _ _ 0 _ _ KZ2.out
    have y1 := frozen_of_row _ _ 1 _ _ KZ2.out
    have y2 := frozen_of_row _ _ 2 _ _ KZ2.out
    have y3 := frozen_of_row _ _ 3 _ _ KZ2.out
    have y4 := frozen_of_row _ _ 4 _ _ KZ2.out
    have y5 := frozen_of_row _ _ 5 _ _ KZ2.out
    have y6 := frozen_of_row _ _ 6 _ _ KZ2.out
    have KR := (set_in 6 (.slice none 0 0) (set_in 5 (.int .i64 0) (set_in 4 (.int .i64 0) (set_in 3 (.int .i64 0) (set_in 2 (.int .i64 0) (set_in 1 (.int .i64 0) (set_in 0 (.int .i64 0) KZ2.out)))))))
    simp only [List.setIfInBounds_toArray, List.set_cons_zero, List.set_cons_succ] at KR
    have HKR := aside KR
    have BF := aside ((((((((B2.out.setCell (p := ⟨w.heap.size + 1, 0, none⟩) HLE (.int .i64 0)).setCell (p := ⟨w.heap.size + 1, 1, none⟩) HLE (.int .i64 0)).setCell (p := ⟨w.heap.size + 1, 2, none⟩) HLE (.int .i64 0)).setCell (p := ⟨w.heap.size + 1, 3, none⟩) HLE (.int .i64 0)).setCell (p := ⟨w.heap.size + 1, 4, none⟩) HLE (.int .i64 0)).setCell (p := ⟨w.heap.size + 1, 5, none⟩) HLE (.int .i64 0)).setCell (p := ⟨w.heap.size + 1, 6, none⟩) HLE (.slice none 0 0)))
    clear KR
    clear HLE
    go_wp2
    obtain ⟨r0, r1, r2, r3, r4, r5, r6⟩ := sep7 HKR.out
    exact bodyPost_ret (v := .tuple #[.agg #[.int .i64 0, .int .i64 0, .int .i64 0, .int .i64 0, .int .i64 0, .int .i64 0, .slice none 0 0], .int .i64 q]) (by simp [results, Try.results18, go_sem, r0, r1, r2, r3, r4, r5, r6]) rfl ⟨BF.out, .inr ⟨H0.out, rfl⟩⟩
/-- Items of the whole range without entries. -/
def P2 : Nat → Pm := fun _ => ⟨2, ⟨#[]⟩, ⟨#[]⟩, true, 0, 0, 0, none, 0, 0, fun _ => ⟨⟨#[]⟩, 0, 0, ⟨#[]⟩, false⟩⟩
theorem P2_no (n : Nat) : NoEnts P2 n := fun _ _ => ⟨rfl, rfl, rfl⟩
theorem P2_in {w : World} {k : Nat} (h : w.heap[k]? = some (.cells #[.int .i64 2, .string ⟨#[]⟩, .string ⟨#[]⟩, .bool true, .int .i64 0, .int .u64 0, .int .u64 0, .slice none 0 0] 51 (0, 0))) : PartsIn w (some ⟨k, 0, none⟩) 1 1 P2 := by
  refine ⟨Nat.le_refl _, by unfold maxLen; omega, .inr ⟨k, 0, rfl, (Array.getElem?_eq_some_iff.1 h).1, fun i hi => ⟨?_, (P2_no 1).in_ _ i hi⟩⟩⟩
  obtain rfl : i = 0 := by omega
  exact oct8 h
theorem P2_tot : totE P2 1 = 0 := rfl
theorem P2_chk : psChk P2 1 = 0 := by
  have h1 : Rg.chk ⟨⟨#[]⟩, ⟨#[]⟩, true⟩ = 0 := by decide +kernel
  have h2 : Rg.emp ⟨⟨#[]⟩, ⟨#[]⟩, true⟩ = false := by decide +kernel
  have h3 : kLt (⟨#[]⟩ : ByteArray) ⟨#[]⟩ = false := by decide +kernel
  have h4 : ptAt P2 0 = 0 := by
    unfold ptAt
    exact (chk_5 (p := P2 0) rfl h1 h2 rfl h3 (by decide)).trans rfl
  unfold psChk
  rw [if_neg (by rw [P2_tot]; omega), ptN_step rfl]
  exact h4
theorem fchk_zero {fr tz o l n tn : Int} {P : Nat → Pm} {len : Nat} (h : fChk fr tz o l n tn P len = 0) : endsB fr tz o = true ∧ Nm.chk o l n = 0 ∧ turnB tn fr o = true ∧ psChk P len = 0 := by
  unfold fChk at h
  cases h1 : endsB fr tz o
  · rw [if_pos h1] at h; cases h
  · rw [if_neg (by simp [h1])] at h
    by_cases h2 : Nm.chk o l n = 0
    · rw [if_neg (by simp [h2])] at h
      cases h3 : turnB tn fr o
      · rw [if_pos h3] at h; cases h
      · rw [if_neg (by simp [h3])] at h
        by_cases h4 : psChk P len = 0
        · exact ⟨rfl, h2, rfl, h4⟩
        · rw [if_pos h4] at h; exact absurd h h4
    · rw [if_pos h2] at h; exact absurd h h2
theorem turn_ok {tn fr o : Int} (h : turnB tn fr o = true) : 0 ≤ tn ∧ tn ≤ 63 ∧ ((tn % 2 = 0) ↔ fr = o) := by
  unfold turnB at h
  simp only [Bool.and_eq_true, decide_eq_true_eq, beq_iff_eq] at h
  obtain ⟨⟨h1, h2⟩, h3⟩ := h
  refine ⟨by omega, by omega, ?_⟩
  constructor
  · intro g
    have : (tn % 2 == 0) = true := by simpa using g
    rw [this] at h3
    simpa using h3.symm
  · intro g
    have : (fr == o) = true := by simpa using g
    rw [this] at h3
    simpa using h3
theorem turn_mk {tn fr o : Int} (h0 : 0 ≤ tn) (h1 : tn ≤ 63) (h2 : (tn % 2 = 0) ↔ fr = o) : turnB tn fr o = true := by
  unfold turnB
  rw [decide_eq_true (show ¬ tn < 0 by omega), decide_eq_true (show ¬ 63 < tn by omega)]
  by_cases g : tn % 2 = 0
  · have a1 : (tn % 2 == 0) = true := by simpa using g
    have a2 : (fr == o) = true := by simpa using h2.1 g
    rw [a1, a2]; rfl
  · have a1 : (tn % 2 == 0) = false := by simpa using g
    have a2 : (fr == o) = false := by simpa using (fun e => g (h2.2 e))
    rw [a1, a2]; rfl
theorem ends_ok {fr tz o : Int} (h : endsB fr tz o = true) : nodeB fr = true ∧ nodeB tz = true ∧ ¬ fr = tz ∧ (o = fr ∨ o = tz) := by
  unfold endsB at h
  simp at h
  exact ⟨h.1.1.1, h.1.1.2, h.1.2, h.2⟩
theorem ends_swap {fr tz o : Int} (h : endsB fr tz o = true) : endsB tz fr o = true := by
  obtain ⟨h1, h2, h3, h4⟩ := ends_ok h
  unfold endsB
  rw [h1, h2, beq_eq_false_iff_ne.2 (fun e => h3 e.symm)]
  rcases h4 with h4 | h4 <;> simp [h4]
theorem next_turn {fr tz o l n tn : Int} {P : Nat → Pm} {len : Nat} (h : fChk fr tz o l n tn P len = 0) (h1 : tn < 63) : fChk tz fr o l n (tn + 1) P2 1 = 0 := by
  obtain ⟨e1, e2, e3, -⟩ := fchk_zero h
  obtain ⟨t1, t2, t3⟩ := turn_ok e3
  obtain ⟨-, -, d3, d4⟩ := ends_ok e1
  refine fchk_6 (ends_swap e1) e2 (turn_mk (by omega) (by omega) ?_) P2_chk (fun g => by omega)
  constructor
  · intro g
    rcases d4 with d | d
    · exact absurd (t3.2 d.symm) (by omega)
    · exact d.symm
  · intro g
    have : ¬ tn % 2 = 0 := fun u => by have := t3.1 u; omega
    omega
theorem last_turn {fr tz o l n tn : Int} {P : Nat → Pm} {len : Nat} (h : fChk fr tz o l n tn P len = 0) (h1 : tn = 63) : fChk tz fr o l n (tn + 1) P2 1 = 112 := by
  obtain ⟨e1, e2, -, -⟩ := fchk_zero h
  refine fchk_3 (ends_swap e1) e2 ?_
  unfold turnB
  rw [decide_eq_false (show ¬ ¬ 63 < tn + 1 by omega)]
  simp
theorem name_ne_same (a l n : Int) (w : World) : (binOp .neq 23 (.agg #[.int .i64 a, .int .i64 l, .int .i64 n]) (.agg #[.int .i64 a, .int .i64 l, .int .i64 n])).run Try.prog w = .ok (.bool false) w := by
  rw [run_neq_struct, show (10000 : Nat) = 9999 + 1 from rfl]
  go_simp
end Go.Proofs.Ytgfblndmblgeeaa

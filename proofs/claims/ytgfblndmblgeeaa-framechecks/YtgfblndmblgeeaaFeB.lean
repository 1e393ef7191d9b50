/-
  checked: a frame that may be is told in new memory.
-/
import Derived.Test.YtgfblndmblgeeaaFeA
import Derived.Laws.Tables
namespace Go.Proofs.Ytgfblndmblgeeaa
open Go.RowKit
set_option linter.unusedVariables false
theorem op_zeroF {w : World} {o : Oper} {act : Act} {K : Act → World → Prop} {Q : Exit → Act → World → Prop} (ho : o.op = .build 26 #[]) (h : K (act.put o.dst (.agg #[.int .i64 0, .int .i64 0, .int .i64 0, .int .i64 0, .int .i64 0, .int .i64 0, .slice none 0 0])) w) : o.wp Try.prog act w K Q := by
  refine wp_build 26 #[] ho (by kernel_rfl) ?_
  have e : ((Try.prog.built 26 ((#[] : Array (Nat × Operand)).map fun (i, x) => (i, act.eval x)).toList).getD #[]) = #[.int .i64 0, .int .i64 0, .int .i64 0, .int .i64 0, .int .i64 0, .int .i64 0, .slice none 0 0] := by kernel_rfl
  rw [e]
  exact h
/-- What First, Answer and checked tell. -/
def TellsF (w : World) (fr tz o l n tn q : Int) (P : Nat → Pm) (len : Nat) (e : Ending) (w' : World) : Prop :=
  Below w.heap.size w w' ∧ ((q = 0 ∧ ∃ g cp, e = .returned (.tuple #[.agg #[.int .i64 fr, .int .i64 tz, .int .i64 o, .int .i64 l, .int .i64 n, .int .i64 tn, .slice (some ⟨g, 0, none⟩) len cp], .int .i64 0]) ∧ PartsIn w' (some ⟨g, 0, none⟩) len cp P ∧ w.heap.size ≤ g) ∨ (q ≠ 0 ∧ e = .returned (.tuple #[.agg #[.int .i64 0, .int .i64 0, .int .i64 0, .int .i64 0, .int .i64 0, .int .i64 0, .slice none 0 0], .int .i64 q])))
theorem chkf_of {fr tz o l n tn : Int} {a : Option Addr} {len cap : Nat} {P : Nat → Pm} {w : World} (h : PartsIn w a len cap P) (hT : totE P len ≤ 4611686018427387904) {q : Int} (hq : fChk fr tz o l n tn P len = q) :
    Calls Try.prog 12 #[.agg #[.int .i64 fr, .int .i64 tz, .int .i64 o, .int .i64 l, .int .i64 n, .int .i64 tn, .slice a len cap]] w fun e w' => e = .returned (.int .i64 q) ∧ Below w.heap.size w w' := by
  subst hq
  exact chkf_any fr tz o l n tn a len cap P w h hT
theorem parts_at {w : World} {a : Nat} {g cap n k : Nat} {P : Nat → Pm} (h : PartsIn w (some ⟨g, 0, none⟩) n cap P) (hN : NoEnts P n) (ha : a ≠ g) (u : Value) : PartsIn (w.setCell ⟨a, k, none⟩ u) (some ⟨g, 0, none⟩) n cap P := by
  obtain ⟨h1, h2, h3⟩ := h
  refine ⟨h1, h2, ?_⟩
  rcases h3 with h3 | ⟨b, off, he, hb, hc⟩
  · exact .inl h3
  · refine .inr ⟨b, off, he, ?_, fun i hi => ⟨?_, hN.in_ _ i hi⟩⟩
    · simpa [World.setCell] using hb
    · have hbg : b ≠ a := by simp at he; omega
      obtain ⟨c0, c1, c2, c3, c4, c5, c6, c7⟩ := (hc i hi).1
      exact ⟨cell_apart c0 hbg, cell_apart c1 hbg, cell_apart c2 hbg, cell_apart c3 hbg, cell_apart c4 hbg, cell_apart c5 hbg, cell_apart c6 hbg, cell_apart c7 hbg⟩
set_option maxHeartbeats 6400000 in
set_option maxRecDepth 100000 in
theorem checked_any (fr tz o l n tn : Int) (y : Addr) (len cap : Nat) (P : Nat → Pm) (w : World) (h : PartsIn w (some y) len cap P) (hz : len * 96 ≤ 140737488351232) (hN : NoEnts P len) (hpos : 0 < len) (hT : totE P len ≤ 4611686018427387904) :
    Calls Try.prog 43 #[.agg #[.int .i64 fr, .int .i64 tz, .int .i64 o, .int .i64 l, .int .i64 n, .int .i64 tn, .slice (some y) len cap]] w (TellsF w fr tz o l n tn (fChk fr tz o l n tn P len) P len) := by
  obtain ⟨q, hq⟩ : ∃ q, fChk fr tz o l n tn P len = q := ⟨_, rfl⟩
  have CH := aside (fun W (bb : Below w.heap.size w W) => chkf_of (h.keep bb) hT hq)
  have CF := aside (fun W (bb : Below w.heap.size w W) => cloneF_any fr tz o l n tn y len cap P W (h.keep bb) hz hN hpos)
  have HN := aside hN
  rw [hq]
  unfold TellsF
  clear h hz hN hpos hT hq
  by_cases h0 : q = 0
  · subst h0
    go_enter Try.func43, Try.ntmps43
    go_wp2_with fail
    have BX := aside (bthen (bnew w (.cells #[.int .i64 fr, .int .i64 tz, .int .i64 o, .int .i64 l, .int .i64 n, .int .i64 tn, .slice (some y) len cap] 26)) (bnew _ (.cells #[.int .i64 0, .int .i64 0, .int .i64 0, .int .i64 0, .int .i64 0, .int .i64 0, .slice none 0 0] 26)))
    have KF := aside (blk_on (heap_alloc_new w (.cells #[.int .i64 fr, .int .i64 tz, .int .i64 o, .int .i64 l, .int .i64 n, .int .i64 tn, .slice (some y) len cap] 26)) (bnew _ (.cells #[.int .i64 0, .int .i64 0, .int .i64 0, .int .i64 0, .int .i64 0, .int .i64 0, .slice none 0 0] 26)))
    have KZ := aside (heap_alloc_new (w.alloc (.cells #[.int .i64 fr, .int .i64 tz, .int .i64 o, .int .i64 l, .int .i64 n, .int .i64 tn, .slice (some y) len cap] 26)) (.cells #[.int .i64 0, .int .i64 0, .int .i64 0, .int .i64 0, .int .i64 0, .int .i64 0, .slice none 0 0] 26))
    rw [World.size_alloc] at KZ
    refine (CH.out _ BX.out).mono ?_
    rintro e w1 ⟨rfl, b1⟩
    have B1 := aside (bthen BX.out b1)
    have KF1 := aside (blk_on KF.out b1)
    have KZ1 := aside (blk_on KZ.out b1)
    clear b1 KF KZ BX
    obtain ⟨fb, hfb⟩ : ∃ fb, w.heap.size = fb := ⟨_, rfl⟩
    rw [hfb] at KF1 KZ1 ⊢
    have HLE : w.heap.size ≤ fb + 1 := by omega
    obtain ⟨f0, f1, f2, f3, f4, f5, f6⟩ := sep7 KF1.out
    have HFB := aside hfb
    clear hfb
    go_wp2_with fail
    refine (CF.out _ B1.out).mono ?_
    rintro e w2 ⟨g, cp, rfl, hp2, hge, b2⟩
    have HGB := aside (show fb + 1 < g from by have h1 := (Array.getElem?_eq_some_iff.1 KZ1.out).1; omega)
    clear hge
    have HPN := aside hp2
    have B2 := aside (bthen B1.out b2)
    have KZ2 := aside (blk_on KZ1.out b2)
    clear f0 f1 f2 f3 f4 f5 f6 b2 hp2 CF CH KF1 KZ1 B1
    obtain ⟨a0, a1, a2, a3, a4, a5, a6, hkz⟩ : ∃ a0 a1 a2 a3 a4 a5 a6 : Value, w2.heap[fb + 1]? = some (Obj.cells #[a0, a1, a2, a3, a4, a5, a6] 26 (0, 0)) := ⟨_, _, _, _, _, _, _, KZ2.out⟩
    clear KZ2
    have KZ2 := aside hkz
    clear hkz
    obtain ⟨z0, z1, z2, z3, z4, z5, z6⟩ := sep7 KZ2.out
    have y0 := frozen_of_row _ _ 0 _ _ KZ2.out
    have y1 := frozen_of_row _ _ 1 _ _ KZ2.out
    have y2 := frozen_of_row _ _ 2 _ _ KZ2.out
    have y3 := frozen_of_row _ _ 3 _ _ KZ2.out
    have y4 := frozen_of_row _ _ 4 _ _ KZ2.out
    have y5 := frozen_of_row _ _ 5 _ _ KZ2.out
    have y6 := frozen_of_row _ _ 6 _ _ KZ2.out
    have KR := (set_in 6 (.slice (some ⟨g, 0, none⟩) len cp) (set_in 5 (.int .i64 tn) (set_in 4 (.int .i64 n) (set_in 3 (.int .i64 l) (set_in 2 (.int .i64 o) (set_in 1 (.int .i64 tz) (set_in 0 (.int .i64 fr) KZ2.out)))))))
    simp only [List.setIfInBounds_toArray, List.set_cons_zero, List.set_cons_succ] at KR
    have HKR := aside KR
    have BF := aside ((((((((B2.out.setCell (p := ⟨fb + 1, 0, none⟩) HLE (.int .i64 fr)).setCell (p := ⟨fb + 1, 1, none⟩) HLE (.int .i64 tz)).setCell (p := ⟨fb + 1, 2, none⟩) HLE (.int .i64 o)).setCell (p := ⟨fb + 1, 3, none⟩) HLE (.int .i64 l)).setCell (p := ⟨fb + 1, 4, none⟩) HLE (.int .i64 n)).setCell (p := ⟨fb + 1, 5, none⟩) HLE (.int .i64 tn)).setCell (p := ⟨fb + 1, 6, none⟩) HLE (.slice (some ⟨g, 0, none⟩) len cp)))
    clear KR
    have HPF := aside ((parts_at (k := 6) (parts_at (k := 5) (parts_at (k := 4) (parts_at (k := 3) (parts_at (k := 2) (parts_at (k := 1) (parts_at (k := 0) HPN.out HN.out (show fb + 1 ≠ g by have := HGB.out; omega) (.int .i64 fr)) HN.out (show fb + 1 ≠ g by have := HGB.out; omega) (.int .i64 tz)) HN.out (show fb + 1 ≠ g by have := HGB.out; omega) (.int .i64 o)) HN.out (show fb + 1 ≠ g by have := HGB.out; omega) (.int .i64 l)) HN.out (show fb + 1 ≠ g by have := HGB.out; omega) (.int .i64 n)) HN.out (show fb + 1 ≠ g by have := HGB.out; omega) (.int .i64 tn)) HN.out (show fb + 1 ≠ g by have := HGB.out; omega) (.slice (some ⟨g, 0, none⟩) len cp)))
    go_wp2
    obtain ⟨r0, r1, r2, r3, r4, r5, r6⟩ := sep7 HKR.out
    exact bodyPost_ret (v := .tuple #[.agg #[.int .i64 fr, .int .i64 tz, .int .i64 o, .int .i64 l, .int .i64 n, .int .i64 tn, .slice (some ⟨g, 0, none⟩) len cp], .int .i64 0]) (by simp [results, Try.results43, go_sem, r0, r1, r2, r3, r4, r5, r6]) rfl ⟨BF.out, .inl ⟨by first | rfl | trivial, g, cp, rfl, HPF.out, by have h1 := HGB.out; have h2 := HFB.out; omega⟩⟩
  · have b0 : (q == 0) = false := by simpa using h0
    have H0 := aside h0
    go_enter Try.func43, Try.ntmps43
    go_wp2_with fail
    have BX := aside (bthen (bnew w (.cells #[.int .i64 fr, .int .i64 tz, .int .i64 o, .int .i64 l, .int .i64 n, .int .i64 tn, .slice (some y) len cap] 26)) (bnew _ (.cells #[.int .i64 0, .int .i64 0, .int .i64 0, .int .i64 0, .int .i64 0, .int .i64 0, .slice none 0 0] 26)))
    have KF := aside (blk_on (heap_alloc_new w (.cells #[.int .i64 fr, .int .i64 tz, .int .i64 o, .int .i64 l, .int .i64 n, .int .i64 tn, .slice (some y) len cap] 26)) (bnew _ (.cells #[.int .i64 0, .int .i64 0, .int .i64 0, .int .i64 0, .int .i64 0, .int .i64 0, .slice none 0 0] 26)))
    have KZ := aside (heap_alloc_new (w.alloc (.cells #[.int .i64 fr, .int .i64 tz, .int .i64 o, .int .i64 l, .int .i64 n, .int .i64 tn, .slice (some y) len cap] 26)) (.cells #[.int .i64 0, .int .i64 0, .int .i64 0, .int .i64 0, .int .i64 0, .int .i64 0, .slice none 0 0] 26))
    rw [World.size_alloc] at KZ
    refine (CH.out _ BX.out).mono ?_
    rintro e w1 ⟨rfl, b1⟩
    have B1 := aside (bthen BX.out b1)
    have KF1 := aside (blk_on KF.out b1)
    have KZ1 := aside (blk_on KZ.out b1)
    clear b1 KF KZ BX
    obtain ⟨fb, hfb⟩ : ∃ fb, w.heap.size = fb := ⟨_, rfl⟩
    rw [hfb] at KF1 KZ1 ⊢
    have HLE : w.heap.size ≤ fb + 1 := by omega
    clear CF CH KF1 hfb
    go_upto_region 3 with fail
    obtain ⟨a0, a1, a2, a3, a4, a5, a6, hkz⟩ : ∃ a0 a1 a2 a3 a4 a5 a6 : Value, w1.heap[fb + 1]? = some (Obj.cells #[a0, a1, a2, a3, a4, a5, a6] 26 (0, 0)) := ⟨_, _, _, _, _, _, _, KZ1.out⟩
    clear KZ1
    have KZ1 := aside hkz
    clear hkz
    obtain ⟨z0, z1, z2, z3, z4, z5, z6⟩ := sep7 KZ1.out
    have y0 := frozen_of_row _ _ 0 _ _ KZ1.out
    have y1 := frozen_of_row _ _ 1 _ _ KZ1.out
    have y2 := frozen_of_row _ _ 2 _ _ KZ1.out
    have y3 := frozen_of_row _ _ 3 _ _ KZ1.out
    have y4 := frozen_of_row _ _ 4 _ _ KZ1.out
    have y5 := frozen_of_row _ _ 5 _ _ KZ1.out
    have y6 := frozen_of_row _ _ 6 _ _ KZ1.out
    have KR := (set_in 6 (.slice none 0 0) (set_in 5 (.int .i64 0) (set_in 4 (.int .i64 0) (set_in 3 (.int .i64 0) (set_in 2 (.int .i64 0) (set_in 1 (.int .i64 0) (set_in 0 (.int .i64 0) KZ1.out)))))))
    simp only [List.setIfInBounds_toArray, List.set_cons_zero, List.set_cons_succ] at KR
    have HKR := aside KR
    have BF := aside ((((((((B1.out.setCell (p := ⟨fb + 1, 0, none⟩) HLE (.int .i64 0)).setCell (p := ⟨fb + 1, 1, none⟩) HLE (.int .i64 0)).setCell (p := ⟨fb + 1, 2, none⟩) HLE (.int .i64 0)).setCell (p := ⟨fb + 1, 3, none⟩) HLE (.int .i64 0)).setCell (p := ⟨fb + 1, 4, none⟩) HLE (.int .i64 0)).setCell (p := ⟨fb + 1, 5, none⟩) HLE (.int .i64 0)).setCell (p := ⟨fb + 1, 6, none⟩) HLE (.slice none 0 0)))
    clear KR
    go_wp2
    obtain ⟨r0, r1, r2, r3, r4, r5, r6⟩ := sep7 HKR.out
    exact bodyPost_ret (v := .tuple #[.agg #[.int .i64 0, .int .i64 0, .int .i64 0, .int .i64 0, .int .i64 0, .int .i64 0, .slice none 0 0], .int .i64 q]) (by simp [results, Try.results43, go_sem, r0, r1, r2, r3, r4, r5, r6]) rfl ⟨BF.out, .inr ⟨H0.out, rfl⟩⟩
end Go.Proofs.Ytgfblndmblgeeaa

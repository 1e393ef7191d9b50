/-
  The law FrameChecks, walked: it returns true at any frame.
-/
import Derived.Test.YtgfblndmblgeeaaFhC
import Derived.Test.YtgfblndmblgeeaaFrWt
import Derived.Test.YtgfblndmblgeeaaFeB
import Derived.Test.YtgfblndmblgeeaaFeR
import Derived.Test.YtgfblndmblgeeaaFcE
import Derived.Test.YtgfblndmblgeeaaFdC
import Derived.Test.YtgfblndmblgeeaaFdD
namespace Go.Proofs.Ytgfblndmblgeeaa
open Go.RowKit
set_option linter.unusedVariables false

theorem itN_eq {r : Rg} {T U : Nat → En} : ∀ {n : Nat}, (∀ k, k < n → T k = U k) → itN r T n = itN r U n
  | 0, _ => rfl
  | n + 1, h => by
    have h1 := itN_eq (r := r) (n := n) (fun k hk => h k (by omega))
    have h2 : itAt r T n = itAt r U n := by
      unfold itAt
      rw [h n (by omega), h (n - 1) (by omega)]
    unfold itN
    rw [h1, h2]
theorem chk_same {p q : Pm} (h : SamePm p q) (hi : ByteArray) (op : Bool) : p.chk hi op = q.chk hi op := by
  obtain ⟨m1, m2, m3, m4, m5, m6, m7, m8, m9⟩ := h
  have hr : p.rg = q.rg := by unfold Pm.rg; rw [m2, m3, m4]
  have h1 := itN_eq (r := p.rg) (n := p.el) m9
  unfold Pm.chk Pm.alone Pm.its
  rw [h1, hr, m1, m2, m5, m6, m7, m8]
theorem totE_same {P U : Nat → Pm} : ∀ {n : Nat}, (∀ i, i < n → SamePm (P i) (U i)) → totE P n = totE U n
  | 0, _ => rfl
  | n + 1, h => by
    unfold totE
    rw [totE_same (n := n) (fun i hi => h i (by omega)), (h n (by omega)).2.2.2.2.2.2.2.1]
theorem ptN_same {P U : Nat → Pm} : ∀ {n : Nat}, (∀ i, i < n → SamePm (P i) (U i)) → ptN P n = ptN U n
  | 0, _ => rfl
  | n + 1, h => by
    have h1 := ptN_same (n := n) (fun i hi => h i (by omega))
    have h2 : ahHi P n = ahHi U n := by
      cases n with
      | zero => rfl
      | succ k => exact (h k (by omega)).2.2.1
    have h3 : ahOp P n = ahOp U n := by
      cases n with
      | zero => rfl
      | succ k => exact (h k (by omega)).2.2.2.1
    have h4 : ptAt P n = ptAt U n := by
      unfold ptAt
      rw [h2, h3]
      exact chk_same (h n (by omega)) _ _
    unfold ptN
    rw [h1, h4]
theorem psChk_same {P U : Nat → Pm} {n : Nat} (h : ∀ i, i < n → SamePm (P i) (U i)) : psChk P n = psChk U n := by
  unfold psChk
  rw [totE_same h, ptN_same h]
theorem opening_same {P U : Nat → Pm} {n : Nat} (h : ∀ i, i < n → SamePm (P i) (U i)) : opening P n = opening U n := by
  unfold opening
  by_cases e : n = 1
  · subst e
    obtain ⟨m1, m2, m3, m4, -⟩ := h 0 (by omega)
    rw [m1, m2, m3, m4]
  · simp [e]
theorem fChk_same {fr tz o l n tn : Int} {P U : Nat → Pm} {len : Nat} (h : ∀ i, i < len → SamePm (P i) (U i)) : fChk fr tz o l n tn P len = fChk fr tz o l n tn U len := by
  unfold fChk
  rw [psChk_same h, opening_same h]
theorem ps_of {a : Option Addr} {len cap : Nat} {P : Nat → Pm} {w : World} (h : PartsIn w a len cap P) (hT : totE P len ≤ 4611686018427387904) {q : Int} (hq : psChk P len = q) :
    Calls Try.prog 14 #[.slice a len cap] w fun e w' => e = .returned (.int .i64 q) ∧ Below w.heap.size w w' := by
  subst hq; exact parts_any a len cap P w h hT
theorem psR_of {a : Option Addr} {len cap : Nat} {P : Nat → Pm} {w : World} (h : PartsIn w a len cap P) {q : Int} (hq : psChk P len = q) :
    Calls Try.prog 15 #[.slice a len cap] w fun e w' => e = .returned (.int .i64 q) ∧ Below w.heap.size w w' := by
  subst hq; exact partsR_any a len cap P w h
theorem totE_each {P : Nat → Pm} : ∀ {n i : Nat}, i < n → (P i).el ≤ totE P n
  | n + 1, i, h => by
    unfold totE
    by_cases e : i = n
    · subst e; omega
    · have := totE_each (P := P) (n := n) (i := i) (by omega)
      omega
set_option maxHeartbeats 6400000 in
set_option maxRecDepth 100000 in
theorem fchecks_walk (fr tz o l n tn : Int) (a : Option Addr) (len cap : Nat) (P : Nat → Pm) (w : World) (hp : PartsIn w a len cap P) (hOk : ∀ i, i < len → (P i).ea = none ∧ (P i).el = 0 ∧ (P i).ec = 0 ∨ ∃ y, (P i).ea = some y) :
    Calls Try.prog 3 #[.agg #[.int .i64 fr, .int .i64 tz, .int .i64 o, .int .i64 l, .int .i64 n, .int .i64 tn, .slice a len cap]] w fun e w' => e = .returned (.bool true) ∧ Below w.heap.size w w' := by
  have HP := aside (hp.keep (bnew w (.cells #[.int .i64 fr, .int .i64 tz, .int .i64 o, .int .i64 l, .int .i64 n, .int .i64 tn, .slice a len cap] 26)))
  have HOK := aside hOk
  have K1 := aside (heap_alloc_new w (.cells #[.int .i64 fr, .int .i64 tz, .int .i64 o, .int .i64 l, .int .i64 n, .int .i64 tn, .slice a len cap] 26))
  have BB := aside (bnew w (.cells #[.int .i64 fr, .int .i64 tz, .int .i64 o, .int .i64 l, .int .i64 n, .int .i64 tn, .slice a len cap] 26))
  have C0 := aside (beyondF_any fr tz o l n tn a len cap P _ HP.out)
  clear hp hOk
  go_enter Try.func3, Try.ntmps3
  go_upto_region 1 with fail
  obtain ⟨i1, hi1⟩ : ∃ i1, w.heap.size = i1 := ⟨_, rfl⟩
  rw [hi1] at K1 ⊢
  have HI1 := aside hi1
  clear hi1
  generalize w.alloc (.cells #[.int .i64 fr, .int .i64 tz, .int .i64 o, .int .i64 l, .int .i64 n, .int .i64 tn, .slice a len cap] 26) = X0 at K1 HP BB C0 ⊢
  obtain ⟨f0, f1, f2, f3, f4, f5, f6⟩ := sep7 K1.out
  go_wp2_with fail
  refine C0.out.mono ?_
  rintro e X1 ⟨q, rfl, hq, b1⟩
  replace K1 := aside (blk_on K1.out b1)
  replace HP := aside (HP.out.keep b1)
  replace BB := aside (bthen BB.out b1)
  clear C0 b1 f0 f1 f2 f3 f4 f5 f6
  cases q
  · have hb := hq rfl
    have HT := aside hb
    clear hq hb
    obtain ⟨f0, f1, f2, f3, f4, f5, f6⟩ := sep7 K1.out
    go_wp2_with fail
    refine (lent_any fr tz o l n tn a len cap P X1 HP.out (by have := HT.out; omega) (fun i hi => ⟨HOK.out i hi, by have h1 := totE_each (P := P) hi; have h2 := HT.out; omega⟩)).mono ?_
    rintro e X2 ⟨g, cp, P', Q, rfl, HL0, HS0, b2⟩
    have HBL := aside b2.size
    obtain ⟨B, hB⟩ : ∃ B, X1.heap.size = B := ⟨_, rfl⟩
    have HGB := aside (show X1.heap.size ≤ g from (HL0.row.lt g rfl).1)
    have HL := aside HL0
    have HS := aside HS0
    replace K1 := aside (blk_on K1.out b2)
    have BX := aside b2
    clear HL0 HS0 b2 f0 f1 f2 f3 f4 f5 f6
    have bn := bnew X2 (.cells #[.int .i64 fr, .int .i64 tz, .int .i64 o, .int .i64 l, .int .i64 n, .int .i64 tn, .slice (some ⟨g, 0, none⟩) (len + 2) cp] 26)
    have K2 := aside (heap_alloc_new X2 (.cells #[.int .i64 fr, .int .i64 tz, .int .i64 o, .int .i64 l, .int .i64 n, .int .i64 tn, .slice (some ⟨g, 0, none⟩) (len + 2) cp] 26))
    replace K1 := aside (blk_on K1.out bn)
    replace HL := aside (HL.out.on bn)
    have HX := aside (show X1.heap.size ≤ (X2.alloc (.cells #[.int .i64 fr, .int .i64 tz, .int .i64 o, .int .i64 l, .int .i64 n, .int .i64 tn, .slice (some ⟨g, 0, none⟩) (len + 2) cp] 26)).heap.size from by rw [World.size_alloc]; have := HBL.out; omega)
    replace BX := aside (bthen BX.out bn)
    clear bn hB B
    go_upto_region 4 with fail
    obtain ⟨i2, hi2⟩ : ∃ i2, X2.heap.size = i2 := ⟨_, rfl⟩
    rw [hi2] at K2 ⊢
    clear hi2
    generalize X2.alloc (.cells #[.int .i64 fr, .int .i64 tz, .int .i64 o, .int .i64 l, .int .i64 n, .int .i64 tn, .slice (some ⟨g, 0, none⟩) (len + 2) cp] 26) = X3 at K1 K2 HL HX BX ⊢
    obtain ⟨f0, f1, f2, f3, f4, f5, f6⟩ := sep7 K2.out
    go_wp2_with fail
    refine (used_any fr tz o l n tn X1.heap.size g len cp P' Q X3 HL.out HX.out (by have := HT.out; omega) (fun i hi => by have h1 := totE_each (P := P) hi; have h2 := HT.out; have h3 := (HS.out i hi).2.2.2.2.2.2.2.1; omega)).mono ?_
    rintro e X4 ⟨Q2, rfl, HL2, kg⟩
    have HN1 := aside (show i1 ≠ g from fun e => by subst e; exact (own_blk HL.out.row K1.out (by decide)) rfl)
    have HN2 := aside (show i2 ≠ g from fun e => by subst e; exact (own_blk HL.out.row K2.out (by decide)) rfl)
    replace K1 := aside ((kg.block i1 (Array.getElem?_eq_some_iff.1 K1.out).1 HN1.out).trans K1.out)
    replace K2 := aside ((kg.block i2 (Array.getElem?_eq_some_iff.1 K2.out).1 HN2.out).trans K2.out)
    replace BX := aside (BX.out.trans (kg.below HX.out (fun k hk e => by have := HGB.out; omega)))
    replace HL := aside HL2
    clear HL2 kg f0 f1 f2 f3 f4 f5 f6 HN1 HN2
    have bn := bnew X4 (.cells #[.int .i64 fr, .int .i64 tz, .int .i64 o, .int .i64 l, .int .i64 n, .int .i64 tn, .slice (some ⟨g, 0, none⟩) len cp] 26)
    have K3 := aside (heap_alloc_new X4 (.cells #[.int .i64 fr, .int .i64 tz, .int .i64 o, .int .i64 l, .int .i64 n, .int .i64 tn, .slice (some ⟨g, 0, none⟩) len cp] 26))
    replace K1 := aside (blk_on K1.out bn)
    replace K2 := aside (blk_on K2.out bn)
    replace HL := aside (HL.out.on bn)
    replace BX := aside (bthen BX.out bn)
    replace HP := aside (HP.out.keep BX.out)
    replace BB := aside (bthen BB.out BX.out)
    clear bn BX HX
    go_upto_region 5 with fail
    obtain ⟨i3, hi3⟩ : ∃ i3, X4.heap.size = i3 := ⟨_, rfl⟩
    rw [hi3] at K3 ⊢
    clear hi3
    generalize X4.alloc (.cells #[.int .i64 fr, .int .i64 tz, .int .i64 o, .int .i64 l, .int .i64 n, .int .i64 tn, .slice (some ⟨g, 0, none⟩) len cp] 26) = X5 at K1 K2 K3 HL HP BB ⊢
    have HU := aside HL.out.parts
    have HSU := aside (HL.out.same HS.out)
    obtain ⟨q1, hq1⟩ : ∃ q, fChk fr tz o l n tn P len = q := ⟨_, rfl⟩
    obtain ⟨q2, hq2⟩ : ∃ q, psChk P len = q := ⟨_, rfl⟩
    have E1 := aside hq1
    have E2 := aside hq2
    have E3 := aside ((fChk_same (fr := fr) (tz := tz) (o := o) (l := l) (n := n) (tn := tn) HSU.out).trans hq1)
    have E4 := aside ((psChk_same HSU.out).trans hq2)
    have HTU := aside (show totE (UQ P' Q2) len ≤ 4611686018427387904 from by rw [totE_same HSU.out]; have := HT.out; omega)
    clear hq1 hq2
    have SX := aside (show ∀ W, Below X5.heap.size X5 W → ((W.cell? ⟨i1, 0, none⟩ = some (.int .i64 fr) ∧ W.cell? ⟨i1, 1, none⟩ = some (.int .i64 tz) ∧ W.cell? ⟨i1, 2, none⟩ = some (.int .i64 o) ∧ W.cell? ⟨i1, 3, none⟩ = some (.int .i64 l) ∧ W.cell? ⟨i1, 4, none⟩ = some (.int .i64 n) ∧ W.cell? ⟨i1, 5, none⟩ = some (.int .i64 tn) ∧ W.cell? ⟨i1, 6, none⟩ = some (.slice a len cap)) ∧ (W.cell? ⟨i2, 0, none⟩ = some (.int .i64 fr) ∧ W.cell? ⟨i2, 1, none⟩ = some (.int .i64 tz) ∧ W.cell? ⟨i2, 2, none⟩ = some (.int .i64 o) ∧ W.cell? ⟨i2, 3, none⟩ = some (.int .i64 l) ∧ W.cell? ⟨i2, 4, none⟩ = some (.int .i64 n) ∧ W.cell? ⟨i2, 5, none⟩ = some (.int .i64 tn) ∧ W.cell? ⟨i2, 6, none⟩ = some (.slice (some ⟨g, 0, none⟩) (len + 2) cp)) ∧ (W.cell? ⟨i3, 0, none⟩ = some (.int .i64 fr) ∧ W.cell? ⟨i3, 1, none⟩ = some (.int .i64 tz) ∧ W.cell? ⟨i3, 2, none⟩ = some (.int .i64 o) ∧ W.cell? ⟨i3, 3, none⟩ = some (.int .i64 l) ∧ W.cell? ⟨i3, 4, none⟩ = some (.int .i64 n) ∧ W.cell? ⟨i3, 5, none⟩ = some (.int .i64 tn) ∧ W.cell? ⟨i3, 6, none⟩ = some (.slice (some ⟨g, 0, none⟩) len cp))) from fun W bw => ⟨sep7 (blk_on K1.out bw), sep7 (blk_on K2.out bw), sep7 (blk_on K3.out bw)⟩)
    refine wp_region_held_drew (S := fun W => ((W.cell? ⟨i1, 0, none⟩ = some (.int .i64 fr) ∧ W.cell? ⟨i1, 1, none⟩ = some (.int .i64 tz) ∧ W.cell? ⟨i1, 2, none⟩ = some (.int .i64 o) ∧ W.cell? ⟨i1, 3, none⟩ = some (.int .i64 l) ∧ W.cell? ⟨i1, 4, none⟩ = some (.int .i64 n) ∧ W.cell? ⟨i1, 5, none⟩ = some (.int .i64 tn) ∧ W.cell? ⟨i1, 6, none⟩ = some (.slice a len cap)) ∧ (W.cell? ⟨i2, 0, none⟩ = some (.int .i64 fr) ∧ W.cell? ⟨i2, 1, none⟩ = some (.int .i64 tz) ∧ W.cell? ⟨i2, 2, none⟩ = some (.int .i64 o) ∧ W.cell? ⟨i2, 3, none⟩ = some (.int .i64 l) ∧ W.cell? ⟨i2, 4, none⟩ = some (.int .i64 n) ∧ W.cell? ⟨i2, 5, none⟩ = some (.int .i64 tn) ∧ W.cell? ⟨i2, 6, none⟩ = some (.slice (some ⟨g, 0, none⟩) (len + 2) cp)) ∧ (W.cell? ⟨i3, 0, none⟩ = some (.int .i64 fr) ∧ W.cell? ⟨i3, 1, none⟩ = some (.int .i64 tz) ∧ W.cell? ⟨i3, 2, none⟩ = some (.int .i64 o) ∧ W.cell? ⟨i3, 3, none⟩ = some (.int .i64 l) ∧ W.cell? ⟨i3, 4, none⟩ = some (.int .i64 n) ∧ W.cell? ⟨i3, 5, none⟩ = some (.int .i64 tn) ∧ W.cell? ⟨i3, 6, none⟩ = some (.slice (some ⟨g, 0, none⟩) len cp))) ∧ Below X5.heap.size X5 W) (by kernel_rfl) ⟨SX.out _ (Below.refl _ X5).drew, (Below.refl _ X5).drew⟩ (fun hHeld => ?_)
    refine wpAnyH_take (i := 0) (v := ?_) rfl (by kernel_rfl) (by kernel_rfl) (by kernel_rfl) (fun _ _ _ h => h) (Or.inl ⟨by rfl, ?_⟩) (by assumption) ?_
    rotate_left
    · intro w hSw
      go_simp
      try with_reducible rfl
    simp only [Act.put, List.getElem_toArray, List.getElem_cons_zero, List.setIfInBounds_toArray, List.set_cons_zero, List.set_cons_succ]
    refine wpAnyH_take (i := 2) (v := ?_) rfl (by kernel_rfl) (by kernel_rfl) (by kernel_rfl) (fun _ _ _ h => h) (Or.inl ⟨by rfl, ?_⟩) (by assumption) ?_
    rotate_left
    · intro w hSw
      go_simp
      try with_reducible rfl
    simp only [Act.put, List.getElem_toArray, List.getElem_cons_zero, List.getElem_cons_succ, List.setIfInBounds_toArray, List.set_cons_zero, List.set_cons_succ]
    refine wpAnyH_ready (rs := [1]) (by kernel_rfl) (by simp) ?_
    refine AllReadyH.cons rfl (fun K hK => ?_) AllReadyH.nil
    go_simp
    refine (chkf_of (HU.out.keep hHeld.2) HTU.out E3.out).mono ?_
    rintro e w9 ⟨rfl, bb⟩
    refine hK.out _ _ (⟨SX.out _ (hHeld.2.trans (bb.mono hHeld.2.size)), hHeld.2.trans (bb.mono hHeld.2.size)⟩) (fun hHeld => ?_)
    clear hK K bb
    refine wpAnyH_ready (rs := [3]) (by kernel_rfl) (by simp) ?_
    refine AllReadyH.cons rfl (fun K hK => ?_) AllReadyH.nil
    go_simp
    refine (chkR_of (HP.out.keep hHeld.2) E1.out).mono ?_
    rintro e w9 ⟨rfl, bb⟩
    refine hK.out _ _ (⟨SX.out _ (hHeld.2.trans (bb.mono hHeld.2.size)), hHeld.2.trans (bb.mono hHeld.2.size)⟩) (fun hHeld => ?_)
    clear hK K bb
    refine wpAnyH_take (i := 4) (v := ?_) rfl (by kernel_rfl) (by kernel_rfl) (by kernel_rfl) (fun _ _ _ h => h) (Or.inl ⟨by rfl, ?_⟩) (by assumption) ?_
    rotate_left
    · intro w hSw
      go_simp
      try with_reducible rfl
    simp only [Act.put, List.getElem_toArray, List.getElem_cons_zero, List.getElem_cons_succ, List.setIfInBounds_toArray, List.set_cons_zero, List.set_cons_succ]
    refine wpAnyH_take (i := 5) (v := ?_) rfl (by kernel_rfl) (by kernel_rfl) (by kernel_rfl) (fun _ _ _ h => h) (Or.inl ⟨by rfl, ?_⟩) (by assumption) ?_
    rotate_left
    · intro w hSw
      go_simp
      try with_reducible rfl
    simp only [Act.put, List.getElem_toArray, List.getElem_cons_zero, List.getElem_cons_succ, List.setIfInBounds_toArray, List.set_cons_zero, List.set_cons_succ]
    refine wpAnyH_take (i := 6) (v := ?_) rfl (by kernel_rfl) (by kernel_rfl) (by kernel_rfl) (fun _ _ _ h => h) (Or.inl ⟨by rfl, ?_⟩) (by assumption) ?_
    rotate_left
    · intro w hSw
      go_simp
      try with_reducible rfl
    simp only [Act.put, List.getElem_toArray, List.getElem_cons_zero, List.getElem_cons_succ, List.setIfInBounds_toArray, List.set_cons_zero, List.set_cons_succ]
    refine wpAnyH_take (i := 7) (v := ?_) rfl (by kernel_rfl) (by kernel_rfl) (by kernel_rfl) (fun _ _ _ h => h) (Or.inl ⟨by rfl, ?_⟩) (by assumption) ?_
    rotate_left
    · intro w hSw
      go_simp
      try with_reducible rfl
    simp only [Act.put, List.getElem_toArray, List.getElem_cons_zero, List.getElem_cons_succ, List.setIfInBounds_toArray, List.set_cons_zero, List.set_cons_succ]
    refine wpAnyH_take (i := 9) (v := ?_) rfl (by kernel_rfl) (by kernel_rfl) (by kernel_rfl) (fun _ _ _ h => h) (Or.inl ⟨by rfl, ?_⟩) (by assumption) ?_
    rotate_left
    · intro w hSw
      go_simp
      try with_reducible rfl
    simp only [Act.put, List.getElem_toArray, List.getElem_cons_zero, List.getElem_cons_succ, List.setIfInBounds_toArray, List.set_cons_zero, List.set_cons_succ]
    refine wpAnyH_take (i := 10) (v := ?_) rfl (by kernel_rfl) (by kernel_rfl) (by kernel_rfl) (fun _ _ _ h => h) (Or.inl ⟨by rfl, ?_⟩) (by assumption) ?_
    rotate_left
    · intro w hSw
      go_simp
      try with_reducible rfl
    simp only [Act.put, List.getElem_toArray, List.getElem_cons_zero, List.getElem_cons_succ, List.setIfInBounds_toArray, List.set_cons_zero, List.set_cons_succ]
    refine wpAnyH_ready (rs := [8]) (by kernel_rfl) (by simp) ?_
    refine AllReadyH.cons rfl (fun K hK => ?_) AllReadyH.nil
    go_simp
    refine (ps_of (HU.out.keep hHeld.2) HTU.out E4.out).mono ?_
    rintro e w9 ⟨rfl, bb⟩
    refine hK.out _ _ (⟨SX.out _ (hHeld.2.trans (bb.mono hHeld.2.size)), hHeld.2.trans (bb.mono hHeld.2.size)⟩) (fun hHeld => ?_)
    clear hK K bb
    refine wpAnyH_ready (rs := [11]) (by kernel_rfl) (by simp) ?_
    refine AllReadyH.cons rfl (fun K hK => ?_) AllReadyH.nil
    go_simp
    refine (psR_of (HP.out.keep hHeld.2) E2.out).mono ?_
    rintro e w9 ⟨rfl, bb⟩
    refine hK.out _ _ (⟨SX.out _ (hHeld.2.trans (bb.mono hHeld.2.size)), hHeld.2.trans (bb.mono hHeld.2.size)⟩) (fun hHeld => ?_)
    clear hK K bb
    refine wpAnyH_take (i := 12) (v := ?_) rfl (by kernel_rfl) (by kernel_rfl) (by kernel_rfl) (fun _ _ _ h => h) (Or.inl ⟨by rfl, ?_⟩) (by assumption) ?_
    rotate_left
    · intro w hSw
      go_simp
      try with_reducible rfl
    simp only [Act.put, List.getElem_toArray, List.getElem_cons_zero, List.getElem_cons_succ, List.setIfInBounds_toArray, List.set_cons_zero, List.set_cons_succ]
    refine wpAnyH_take (i := 13) (v := ?_) rfl (by kernel_rfl) (by kernel_rfl) (by kernel_rfl) (fun _ _ _ h => h) (Or.inl ⟨by rfl, ?_⟩) (by assumption) ?_
    rotate_left
    · intro w hSw
      go_simp
      try with_reducible rfl
    simp only [Act.put, List.getElem_toArray, List.getElem_cons_zero, List.getElem_cons_succ, List.setIfInBounds_toArray, List.set_cons_zero, List.set_cons_succ]
    refine wpAnyH_take (i := 14) (v := ?_) rfl (by kernel_rfl) (by kernel_rfl) (by kernel_rfl) (fun _ _ _ h => h) (Or.inl ⟨by rfl, ?_⟩) (by assumption) ?_
    rotate_left
    · intro w hSw
      go_simp
      try with_reducible rfl
    simp only [Act.put, List.getElem_toArray, List.getElem_cons_zero, List.getElem_cons_succ, List.setIfInBounds_toArray, List.set_cons_zero, List.set_cons_succ]
    refine wpAnyH_take (i := 15) (v := ?_) rfl (by kernel_rfl) (by kernel_rfl) (by kernel_rfl) (fun _ _ _ h => h) (Or.inl ⟨by rfl, ?_⟩) (by assumption) ?_
    rotate_left
    · intro w hSw
      go_simp
      try with_reducible rfl
    simp only [Act.put, List.getElem_toArray, List.getElem_cons_zero, List.getElem_cons_succ, List.setIfInBounds_toArray, List.set_cons_zero, List.set_cons_succ]
    refine wpAnyH_take (i := 16) (v := ?_) rfl (by kernel_rfl) (by kernel_rfl) (by kernel_rfl) (fun _ _ _ h => h) (Or.inl ⟨by rfl, ?_⟩) (by assumption) ?_
    rotate_left
    · intro w hSw
      go_simp
      try with_reducible rfl
    simp only [Act.put, List.getElem_toArray, List.getElem_cons_zero, List.getElem_cons_succ, List.setIfInBounds_toArray, List.set_cons_zero, List.set_cons_succ]
    refine wpAnyH_ready (rs := [17]) (by kernel_rfl) (by simp) ?_
    refine AllReadyH.cons rfl (fun K hK => ?_) AllReadyH.nil
    go_simp
    refine (still_any fr tz o l n tn _ g len cp P' Q2 a cap P _ (HL.out.on hHeld.2) (HP.out.keep hHeld.2) HS.out).mono ?_
    rintro e w9 ⟨rfl, bb⟩
    refine hK.out _ _ (⟨SX.out _ (hHeld.2.trans (bb.mono hHeld.2.size)), hHeld.2.trans (bb.mono hHeld.2.size)⟩) (fun hHeld => ?_)
    clear hK K bb
    refine wpAnyH_take (i := 18) (v := ?_) rfl (by kernel_rfl) (by kernel_rfl) (by kernel_rfl) (fun _ _ _ h => h) (Or.inl ⟨by rfl, ?_⟩) (by assumption) ?_
    rotate_left
    · intro w hSw
      go_simp
      try with_reducible rfl
    simp only [Act.put, List.getElem_toArray, List.getElem_cons_zero, List.getElem_cons_succ, List.setIfInBounds_toArray, List.set_cons_zero, List.set_cons_succ]
    refine wpAnyH_take (i := 19) (v := ?_) rfl (by kernel_rfl) (by kernel_rfl) (by kernel_rfl) (fun _ _ _ h => h) (Or.inl ⟨by rfl, ?_⟩) (by assumption) ?_
    rotate_left
    · intro w hSw
      go_simp
      try with_reducible rfl
    simp only [Act.put, List.getElem_toArray, List.getElem_cons_zero, List.getElem_cons_succ, List.setIfInBounds_toArray, List.set_cons_zero, List.set_cons_succ]
    refine wpAnyH_done (by kernel_rfl) ?_ _

    have BF := aside (bthen BB.out hHeld.2)
    clear hHeld SX
    go_wp2_with fail
    exact bodyPost_ret (v := .bool true) (by simp [results, Try.results3, go_sem]) rfl ⟨rfl, BF.out⟩
  · clear hq
    go_wp2_with fail
    exact bodyPost_ret (v := .bool true) (by simp [results, Try.results3, go_sem]) rfl ⟨rfl, BB.out⟩

end Go.Proofs.Ytgfblndmblgeeaa

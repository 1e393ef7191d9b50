/-
  The law FrameTells, walked: it returns true at any two frames.
-/
import Derived.Test.YtoabncoigleiaaaBf11
import Derived.Test.YtoabncoigleiaaaBf12
import Derived.Test.YtoabncoigleiaaaBf14
import Derived.Test.YtoabncoigleiaaaBf6
import Derived.Test.YtoabncoigleiaaaBf7
import Derived.Test.YtoabncoigleiaaaBf5
namespace Go.Proofs.Ytoabncoigleiaaa
open Go.RowKit
set_option linter.unusedVariables false
theorem samePm_symm {p q : Pm} (h : SamePm p q) : SamePm q p := by
  obtain ⟨m1, m2, m3, m4, m5, m6, m7, m8, m9⟩ := h
  exact ⟨m1.symm, m2.symm, m3.symm, m4.symm, m5.symm, m6.symm, m7.symm, m8.symm, fun k hk => (m9 k (by omega)).symm⟩
theorem samePm_trans {p q r : Pm} (h : SamePm p q) (h' : SamePm q r) : SamePm p r := by
  obtain ⟨m1, m2, m3, m4, m5, m6, m7, m8, m9⟩ := h
  obtain ⟨k1, k2, k3, k4, k5, k6, k7, k8, k9⟩ := h'
  exact ⟨m1.trans k1, m2.trans k2, m3.trans k3, m4.trans k4, m5.trans k5, m6.trans k6, m7.trans k7, m8.trans k8, fun k hk => (m9 k hk).trans (k9 k (by omega))⟩
theorem totE_sameT {P U : Nat → Pm} : ∀ {n : Nat}, (∀ i, i < n → SamePm (P i) (U i)) → totE P n = totE U n
  | 0, _ => rfl
  | n + 1, h => by
    unfold totE
    rw [totE_sameT (n := n) (fun i hi => h i (by omega)), (h n (by omega)).2.2.2.2.2.2.2.1]
theorem totE_eachT {P : Nat → Pm} {n i : Nat} (h : i < n) : (P i).el ≤ totE P n := by
  have := el_totE P (i := i) (n := n) h
  omega
theorem says_q {p : Prop} {e : Ending} {q : Bool} (h : SaysS p e) (hq : q = true ↔ p) : e = .returned (.bool q) := by
  rcases h with ⟨h1, h2⟩ | ⟨h1, h2⟩
  · rw [h2, hq.2 h1]
  · cases q
    · exact h2
    · exact absurd (hq.1 rfl) h1
theorem sameF_q (fr tz o l n tn fr2 tz2 o2 l2 n2 tn2 : Int) (a : Option Addr) (len ca : Nat) (P : Nat → Pm) (b : Option Addr) (len2 cb : Nat) (Q : Nat → Pm) (w : World) (hA : PartsIn w a len ca P) (hB : PartsIn w b len2 cb Q) {q : Bool} (hq : q = true ↔ FrSame fr tz o l n tn fr2 tz2 o2 l2 n2 tn2 P len Q len2) :
    Calls Try.prog 21 #[.agg #[.int .i64 fr, .int .i64 tz, .int .i64 o, .int .i64 l, .int .i64 n, .int .i64 tn, .slice a len ca], .agg #[.int .i64 fr2, .int .i64 tz2, .int .i64 o2, .int .i64 l2, .int .i64 n2, .int .i64 tn2, .slice b len2 cb]] w fun e w' => e = .returned (.bool q) ∧ Below w.heap.size w w' :=
  (sameF_any fr tz o l n tn fr2 tz2 o2 l2 n2 tn2 a len ca P b len2 cb Q w hA hB).mono fun e w' h => ⟨says_q h.1 hq, h.2⟩
theorem same_q (fr tz o l n tn fr2 tz2 o2 l2 n2 tn2 : Int) (a : Option Addr) (len ca : Nat) (P : Nat → Pm) (b : Option Addr) (len2 cb : Nat) (Q : Nat → Pm) (w : World) (hA : PartsIn w a len ca P) (hB : PartsIn w b len2 cb Q) {q : Bool} (hq : q = true ↔ FrSame fr tz o l n tn fr2 tz2 o2 l2 n2 tn2 P len Q len2) :
    Calls Try.prog 13 #[.agg #[.int .i64 fr, .int .i64 tz, .int .i64 o, .int .i64 l, .int .i64 n, .int .i64 tn, .slice a len ca], .agg #[.int .i64 fr2, .int .i64 tz2, .int .i64 o2, .int .i64 l2, .int .i64 n2, .int .i64 tn2, .slice b len2 cb]] w fun e w' => e = .returned (.bool q) ∧ Below w.heap.size w w' :=
  (same_any fr tz o l n tn fr2 tz2 o2 l2 n2 tn2 a len ca P b len2 cb Q w hA hB).mono fun e w' h => ⟨says_q h.1 hq, h.2⟩
theorem frSame_left {fr tz o l n tn fr2 tz2 o2 l2 n2 tn2 : Int} {P U Q : Nat → Pm} {len len2 : Nat} (h : ∀ i, i < len → SamePm (U i) (P i)) : FrSame fr tz o l n tn fr2 tz2 o2 l2 n2 tn2 U len Q len2 ↔ FrSame fr tz o l n tn fr2 tz2 o2 l2 n2 tn2 P len Q len2 := by
  unfold FrSame PsSame
  refine ⟨fun k => ⟨k.1, k.2.1, fun i hi => samePm_trans (samePm_symm (h i hi)) (k.2.2 i hi)⟩, fun k => ⟨k.1, k.2.1, fun i hi => samePm_trans (h i hi) (k.2.2 i hi)⟩⟩
theorem frSame_yes {fr tz o l n tn : Int} {P U : Nat → Pm} {len : Nat} (h : ∀ i, i < len → SamePm (U i) (P i)) : true = true ↔ FrSame fr tz o l n tn fr tz o l n tn U len P len :=
  ⟨fun _ => ⟨⟨rfl, rfl, rfl, rfl, rfl, rfl⟩, rfl, h⟩, fun _ => rfl⟩
set_option maxHeartbeats 12800000 in
set_option maxRecDepth 100000 in
theorem ftells_walk (fr tz o l n tn fr2 tz2 o2 l2 n2 tn2 : Int) (a : Option Addr) (len cap : Nat) (P : Nat → Pm) (b : Option Addr) (len2 cb : Nat) (R : Nat → Pm) (w : World) (hp : PartsIn w a len cap P) (hr : PartsIn w b len2 cb R) (hOk : ∀ i, i < len → (P i).ea = none ∧ (P i).el = 0 ∧ (P i).ec = 0 ∨ ∃ y, (P i).ea = some y) :
    Calls Try.prog 4 #[.agg #[.int .i64 fr, .int .i64 tz, .int .i64 o, .int .i64 l, .int .i64 n, .int .i64 tn, .slice a len cap], .agg #[.int .i64 fr2, .int .i64 tz2, .int .i64 o2, .int .i64 l2, .int .i64 n2, .int .i64 tn2, .slice b len2 cb]] w fun e w' => e = .returned (.bool true) ∧ Below w.heap.size w w' := by
  have bn0 := bthen (bnew w (.cells #[.int .i64 fr, .int .i64 tz, .int .i64 o, .int .i64 l, .int .i64 n, .int .i64 tn, .slice a len cap] 26)) (bnew _ (.cells #[.int .i64 fr2, .int .i64 tz2, .int .i64 o2, .int .i64 l2, .int .i64 n2, .int .i64 tn2, .slice b len2 cb] 26))
  have HP := aside (hp.keep bn0)
  have HR := aside (hr.keep bn0)
  have HOK := aside hOk
  have K1 := aside (blk_on (heap_alloc_new w (.cells #[.int .i64 fr, .int .i64 tz, .int .i64 o, .int .i64 l, .int .i64 n, .int .i64 tn, .slice a len cap] 26)) (bnew _ (.cells #[.int .i64 fr2, .int .i64 tz2, .int .i64 o2, .int .i64 l2, .int .i64 n2, .int .i64 tn2, .slice b len2 cb] 26)))
  have K0 := aside (heap_alloc_new (w.alloc (.cells #[.int .i64 fr, .int .i64 tz, .int .i64 o, .int .i64 l, .int .i64 n, .int .i64 tn, .slice a len cap] 26)) (.cells #[.int .i64 fr2, .int .i64 tz2, .int .i64 o2, .int .i64 l2, .int .i64 n2, .int .i64 tn2, .slice b len2 cb] 26))
  have BB := aside bn0
  have HSZ := aside (World.size_alloc w (.cells #[.int .i64 fr, .int .i64 tz, .int .i64 o, .int .i64 l, .int .i64 n, .int .i64 tn, .slice a len cap] 26))
  rw [HSZ.out] at K0
  have C0 := aside (beyondF_any fr tz o l n tn a len cap P _ HP.out)
  clear hp hr hOk bn0 HSZ
  go_enter Try.func4, Try.ntmps4
  go_upto_region 1 with fail
  obtain ⟨i1, hi1⟩ : ∃ i1, w.heap.size = i1 := ⟨_, rfl⟩
  obtain ⟨i0, hi0⟩ : ∃ i0, i1 + 1 = i0 := ⟨_, rfl⟩
  rw [hi1] at K1
  rw [hi1, hi0] at K0
  rw [hi1, hi0]
  clear hi1 hi0
  generalize (w.alloc (.cells #[.int .i64 fr, .int .i64 tz, .int .i64 o, .int .i64 l, .int .i64 n, .int .i64 tn, .slice a len cap] 26)).alloc (.cells #[.int .i64 fr2, .int .i64 tz2, .int .i64 o2, .int .i64 l2, .int .i64 n2, .int .i64 tn2, .slice b len2 cb] 26) = X0 at K0 K1 HP HR BB C0 ⊢
  obtain ⟨f0, f1, f2, f3, f4, f5, f6⟩ := sep7 K1.out
  obtain ⟨o0, o1, o2', o3, o4, o5, o6⟩ := sep7 K0.out
  go_wp2_with fail
  refine C0.out.mono ?_
  rintro e X1a ⟨q, rfl, hq, b1⟩
  replace K1 := aside (blk_on K1.out b1)
  replace K0 := aside (blk_on K0.out b1)
  replace HP := aside (HP.out.keep b1)
  replace HR := aside (HR.out.keep b1)
  replace BB := aside (bthen BB.out b1)
  clear C0 b1 f0 f1 f2 f3 f4 f5 f6 o0 o1 o2' o3 o4 o5 o6
  cases q
  · have hb := hq rfl
    have HT := aside hb
    clear hq hb
    obtain ⟨f0, f1, f2, f3, f4, f5, f6⟩ := sep7 K1.out
    obtain ⟨o0, o1, o2', o3, o4, o5, o6⟩ := sep7 K0.out
    have C1 := aside (beyondF_any fr2 tz2 o2 l2 n2 tn2 b len2 cb R _ HR.out)
    go_wp2_with fail
    refine C1.out.mono ?_
    rintro e X1 ⟨q, rfl, hq, b1⟩
    replace K1 := aside (blk_on K1.out b1)
    replace K0 := aside (blk_on K0.out b1)
    replace HP := aside (HP.out.keep b1)
    replace HR := aside (HR.out.keep b1)
    replace BB := aside (bthen BB.out b1)
    clear C1 b1 hq f0 f1 f2 f3 f4 f5 f6 o0 o1 o2' o3 o4 o5 o6
    cases q
    · obtain ⟨f0, f1, f2, f3, f4, f5, f6⟩ := sep7 K1.out
      go_wp2_with fail
      refine (lent_any fr tz o l n tn a len cap P X1 HP.out (by have := HT.out; omega) (fun i hi => ⟨HOK.out i hi, by have h1 := totE_eachT (P := P) hi; have h2 := HT.out; omega⟩)).mono ?_
      rintro e X2 ⟨g, cp, P', Q, rfl, HL0, HS0, b2⟩
      have HBL := aside b2.size
      have HGB := aside (show X1.heap.size ≤ g from (HL0.row.lt g rfl).1)
      have HL := aside HL0
      have HS := aside HS0
      replace K1 := aside (blk_on K1.out b2)
      replace K0 := aside (blk_on K0.out b2)
      have BX := aside b2
      clear HL0 HS0 b2 f0 f1 f2 f3 f4 f5 f6
      have bn := bnew X2 (.cells #[.int .i64 fr, .int .i64 tz, .int .i64 o, .int .i64 l, .int .i64 n, .int .i64 tn, .slice (some ⟨g, 0, none⟩) (len + 2) cp] 26)
      have K2 := aside (heap_alloc_new X2 (.cells #[.int .i64 fr, .int .i64 tz, .int .i64 o, .int .i64 l, .int .i64 n, .int .i64 tn, .slice (some ⟨g, 0, none⟩) (len + 2) cp] 26))
      replace K1 := aside (blk_on K1.out bn)
      replace K0 := aside (blk_on K0.out bn)
      replace HL := aside (HL.out.on bn)
      have HX := aside (show X1.heap.size ≤ (X2.alloc (.cells #[.int .i64 fr, .int .i64 tz, .int .i64 o, .int .i64 l, .int .i64 n, .int .i64 tn, .slice (some ⟨g, 0, none⟩) (len + 2) cp] 26)).heap.size from by rw [World.size_alloc]; have := HBL.out; omega)
      replace BX := aside (bthen BX.out bn)
      clear bn
      go_upto_region 4 with fail
      obtain ⟨i2, hi2⟩ : ∃ i2, X2.heap.size = i2 := ⟨_, rfl⟩
      rw [hi2] at K2 ⊢
      clear hi2
      generalize X2.alloc (.cells #[.int .i64 fr, .int .i64 tz, .int .i64 o, .int .i64 l, .int .i64 n, .int .i64 tn, .slice (some ⟨g, 0, none⟩) (len + 2) cp] 26) = X3 at K0 K1 K2 HL HX BX ⊢
      obtain ⟨f0, f1, f2, f3, f4, f5, f6⟩ := sep7 K2.out
      go_wp2_with fail
      refine (used_any fr tz o l n tn X1.heap.size g len cp P' Q X3 HL.out HX.out (by have := HT.out; omega) (fun i hi => by have h1 := totE_eachT (P := P) hi; have h2 := HT.out; have h3 := (HS.out i hi).2.2.2.2.2.2.2.1; omega)).mono ?_
      rintro e X4 ⟨Q2, rfl, HL2, kg⟩
      have HN1 := aside (show i1 ≠ g from fun e => by subst e; exact (own_blk HL.out.row K1.out (by decide)) rfl)
      have HN0 := aside (show i0 ≠ g from fun e => by subst e; exact (own_blk HL.out.row K0.out (by decide)) rfl)
      have HN2 := aside (show i2 ≠ g from fun e => by subst e; exact (own_blk HL.out.row K2.out (by decide)) rfl)
      replace K1 := aside ((kg.block i1 (Array.getElem?_eq_some_iff.1 K1.out).1 HN1.out).trans K1.out)
      replace K0 := aside ((kg.block i0 (Array.getElem?_eq_some_iff.1 K0.out).1 HN0.out).trans K0.out)
      replace K2 := aside ((kg.block i2 (Array.getElem?_eq_some_iff.1 K2.out).1 HN2.out).trans K2.out)
      replace BX := aside (BX.out.trans (kg.below HX.out (fun k hk e => by have := HGB.out; omega)))
      replace HL := aside HL2
      clear HL2 kg f0 f1 f2 f3 f4 f5 f6 HN0 HN1 HN2
      have bn := bnew X4 (.cells #[.int .i64 fr, .int .i64 tz, .int .i64 o, .int .i64 l, .int .i64 n, .int .i64 tn, .slice (some ⟨g, 0, none⟩) len cp] 26)
      have K3 := aside (heap_alloc_new X4 (.cells #[.int .i64 fr, .int .i64 tz, .int .i64 o, .int .i64 l, .int .i64 n, .int .i64 tn, .slice (some ⟨g, 0, none⟩) len cp] 26))
      replace K1 := aside (blk_on K1.out bn)
      replace K0 := aside (blk_on K0.out bn)
      replace K2 := aside (blk_on K2.out bn)
      replace HL := aside (HL.out.on bn)
      replace BX := aside (bthen BX.out bn)
      replace HP := aside (HP.out.keep BX.out)
      replace HR := aside (HR.out.keep BX.out)
      replace BB := aside (bthen BB.out BX.out)
      clear bn BX HX
      go_upto_region 5 with fail
      obtain ⟨i3, hi3⟩ : ∃ i3, X4.heap.size = i3 := ⟨_, rfl⟩
      rw [hi3] at K3 ⊢
      clear hi3
      generalize X4.alloc (.cells #[.int .i64 fr, .int .i64 tz, .int .i64 o, .int .i64 l, .int .i64 n, .int .i64 tn, .slice (some ⟨g, 0, none⟩) len cp] 26) = X5 at K0 K1 K2 K3 HL HP HR BB ⊢
      have HSU := aside (HL.out.same HS.out)
      have HU := aside HL.out.parts
      obtain ⟨f0, f1, f2, f3, f4, f5, f6⟩ := sep7 K3.out
      go_wp2_with fail
      refine (cloneC_any fr tz o l n tn ⟨g, 0, none⟩ len cp (UQ P' Q2) X5 HU.out (by have := HT.out; omega) (fun i hi => ⟨by obtain ⟨ge, h1, _⟩ := HL.out.ent i hi; exact ⟨_, h1⟩, by have h1 := totE_eachT (P := P) hi; have h2 := HT.out; have h3 := (HSU.out i hi).2.2.2.2.2.2.2.1; omega⟩)).mono ?_
      rintro e X6 ⟨gc, cc, PC, rfl, HO0, HSC0, b6⟩
      have HO := aside HO0
      have HSC := aside (fun i hi => samePm_symm (HSC0 i hi))
      have BY := aside b6
      clear HO0 HSC0 b6 f0 f1 f2 f3 f4 f5 f6
      have bn := bnew X6 (.cells #[.int .i64 fr, .int .i64 tz, .int .i64 o, .int .i64 l, .int .i64 n, .int .i64 tn, .slice (some ⟨gc, 0, none⟩) len cc] 26)
      have K4 := aside (heap_alloc_new X6 (.cells #[.int .i64 fr, .int .i64 tz, .int .i64 o, .int .i64 l, .int .i64 n, .int .i64 tn, .slice (some ⟨gc, 0, none⟩) len cc] 26))
      replace HO := aside (HO.out.on bn)
      replace BY := aside (bthen BY.out bn)
      clear bn
      go_upto_region 6 with fail
      obtain ⟨i4, hi4⟩ : ∃ i4, X6.heap.size = i4 := ⟨_, rfl⟩
      rw [hi4] at K4 ⊢
      clear hi4
      generalize X6.alloc (.cells #[.int .i64 fr, .int .i64 tz, .int .i64 o, .int .i64 l, .int .i64 n, .int .i64 tn, .slice (some ⟨gc, 0, none⟩) len cc] 26) = X7 at K4 HO BY ⊢
      have HL5 := aside HL.out
      have HP5 := aside HP.out
      have K15 := aside K1.out
      have K25 := aside K2.out
      have BB5 := aside BB.out
      replace K1 := aside (blk_on K1.out BY.out)
      replace K0 := aside (blk_on K0.out BY.out)
      replace K2 := aside (blk_on K2.out BY.out)
      replace K3 := aside (blk_on K3.out BY.out)
      replace HL := aside (HL.out.on BY.out)
      replace HP := aside (HP.out.keep BY.out)
      replace HR := aside (HR.out.keep BY.out)
      replace HU := aside (HU.out.keep BY.out)
      have HC := aside HO.out.parts
      have HTP := aside (show totE P len ≤ 4611686018427387904 from by have := HT.out; omega)
      have HTU := aside (show totE (UQ P' Q2) len ≤ 4611686018427387904 from by rw [totE_sameT HSU.out]; have := HT.out; omega)
      obtain ⟨q0, hq0⟩ : ∃ q, ((len : Int) == 0) = q := ⟨_, rfl⟩
      have EQ0 := aside hq0
      obtain ⟨q1, hq1⟩ : ∃ q, totE P len = q := ⟨_, rfl⟩
      have EP := aside hq1
      have EU := aside ((totE_sameT HSU.out).trans hq1)
      obtain ⟨q2, hq2⟩ : ∃ q : Bool, q = true ↔ FrSame fr tz o l n tn fr2 tz2 o2 l2 n2 tn2 P len R len2 := by
        by_cases hh : FrSame fr tz o l n tn fr2 tz2 o2 l2 n2 tn2 P len R len2
        · exact ⟨true, ⟨fun _ => hh, fun _ => rfl⟩⟩
        · exact ⟨false, ⟨fun k => (by cases k), fun k => absurd k hh⟩⟩
      have QP := aside hq2
      have QU := aside (hq2.trans (frSame_left HSU.out).symm)
      clear hq0 hq1 hq2
      have SX := aside (show ∀ W, Below X7.heap.size X7 W → ((W.cell? ⟨i1, 0, none⟩ = some (.int .i64 fr) ∧ W.cell? ⟨i1, 1, none⟩ = some (.int .i64 tz) ∧ W.cell? ⟨i1, 2, none⟩ = some (.int .i64 o) ∧ W.cell? ⟨i1, 3, none⟩ = some (.int .i64 l) ∧ W.cell? ⟨i1, 4, none⟩ = some (.int .i64 n) ∧ W.cell? ⟨i1, 5, none⟩ = some (.int .i64 tn) ∧ W.cell? ⟨i1, 6, none⟩ = some (.slice a len cap)) ∧ (W.cell? ⟨i0, 0, none⟩ = some (.int .i64 fr2) ∧ W.cell? ⟨i0, 1, none⟩ = some (.int .i64 tz2) ∧ W.cell? ⟨i0, 2, none⟩ = some (.int .i64 o2) ∧ W.cell? ⟨i0, 3, none⟩ = some (.int .i64 l2) ∧ W.cell? ⟨i0, 4, none⟩ = some (.int .i64 n2) ∧ W.cell? ⟨i0, 5, none⟩ = some (.int .i64 tn2) ∧ W.cell? ⟨i0, 6, none⟩ = some (.slice b len2 cb)) ∧ (W.cell? ⟨i3, 0, none⟩ = some (.int .i64 fr) ∧ W.cell? ⟨i3, 1, none⟩ = some (.int .i64 tz) ∧ W.cell? ⟨i3, 2, none⟩ = some (.int .i64 o) ∧ W.cell? ⟨i3, 3, none⟩ = some (.int .i64 l) ∧ W.cell? ⟨i3, 4, none⟩ = some (.int .i64 n) ∧ W.cell? ⟨i3, 5, none⟩ = some (.int .i64 tn) ∧ W.cell? ⟨i3, 6, none⟩ = some (.slice (some ⟨g, 0, none⟩) len cp)) ∧ (W.cell? ⟨i4, 0, none⟩ = some (.int .i64 fr) ∧ W.cell? ⟨i4, 1, none⟩ = some (.int .i64 tz) ∧ W.cell? ⟨i4, 2, none⟩ = some (.int .i64 o) ∧ W.cell? ⟨i4, 3, none⟩ = some (.int .i64 l) ∧ W.cell? ⟨i4, 4, none⟩ = some (.int .i64 n) ∧ W.cell? ⟨i4, 5, none⟩ = some (.int .i64 tn) ∧ W.cell? ⟨i4, 6, none⟩ = some (.slice (some ⟨gc, 0, none⟩) len cc))) from fun W bw => ⟨sep7 (blk_on K1.out bw), sep7 (blk_on K0.out bw), sep7 (blk_on K3.out bw), sep7 (blk_on K4.out bw)⟩)
      refine wp_region_held_drew (S := fun W => ((W.cell? ⟨i1, 0, none⟩ = some (.int .i64 fr) ∧ W.cell? ⟨i1, 1, none⟩ = some (.int .i64 tz) ∧ W.cell? ⟨i1, 2, none⟩ = some (.int .i64 o) ∧ W.cell? ⟨i1, 3, none⟩ = some (.int .i64 l) ∧ W.cell? ⟨i1, 4, none⟩ = some (.int .i64 n) ∧ W.cell? ⟨i1, 5, none⟩ = some (.int .i64 tn) ∧ W.cell? ⟨i1, 6, none⟩ = some (.slice a len cap)) ∧ (W.cell? ⟨i0, 0, none⟩ = some (.int .i64 fr2) ∧ W.cell? ⟨i0, 1, none⟩ = some (.int .i64 tz2) ∧ W.cell? ⟨i0, 2, none⟩ = some (.int .i64 o2) ∧ W.cell? ⟨i0, 3, none⟩ = some (.int .i64 l2) ∧ W.cell? ⟨i0, 4, none⟩ = some (.int .i64 n2) ∧ W.cell? ⟨i0, 5, none⟩ = some (.int .i64 tn2) ∧ W.cell? ⟨i0, 6, none⟩ = some (.slice b len2 cb)) ∧ (W.cell? ⟨i3, 0, none⟩ = some (.int .i64 fr) ∧ W.cell? ⟨i3, 1, none⟩ = some (.int .i64 tz) ∧ W.cell? ⟨i3, 2, none⟩ = some (.int .i64 o) ∧ W.cell? ⟨i3, 3, none⟩ = some (.int .i64 l) ∧ W.cell? ⟨i3, 4, none⟩ = some (.int .i64 n) ∧ W.cell? ⟨i3, 5, none⟩ = some (.int .i64 tn) ∧ W.cell? ⟨i3, 6, none⟩ = some (.slice (some ⟨g, 0, none⟩) len cp)) ∧ (W.cell? ⟨i4, 0, none⟩ = some (.int .i64 fr) ∧ W.cell? ⟨i4, 1, none⟩ = some (.int .i64 tz) ∧ W.cell? ⟨i4, 2, none⟩ = some (.int .i64 o) ∧ W.cell? ⟨i4, 3, none⟩ = some (.int .i64 l) ∧ W.cell? ⟨i4, 4, none⟩ = some (.int .i64 n) ∧ W.cell? ⟨i4, 5, none⟩ = some (.int .i64 tn) ∧ W.cell? ⟨i4, 6, none⟩ = some (.slice (some ⟨gc, 0, none⟩) len cc))) ∧ Below X7.heap.size X7 W) (by kernel_rfl) ⟨SX.out _ (Below.refl _ X7).drew, (Below.refl _ X7).drew⟩ (fun hHeld => ?_)
      refine wpAnyH_take (i := 0) (v := ?_) rfl (by kernel_rfl) (by kernel_rfl) (by kernel_rfl) (fun _ _ _ h => h) (Or.inl ⟨by rfl, ?_⟩) (by assumption) ?_
      rotate_left
      · intro w hSw
        go_simp
        try with_reducible rfl
      simp only [Act.put, List.getElem_toArray, List.getElem_cons_zero, List.setIfInBounds_toArray, List.set_cons_zero, List.set_cons_succ]
      refine wpAnyH_take (i := 2) (v := ?_) rfl (by kernel_rfl) (by kernel_rfl) (by kernel_rfl) (fun _ _ _ h => h) (Or.inl ⟨by rfl, ?_⟩) (by assumption) ?_
      rotate_left
      · intro w hSw
        go_simp
        try with_reducible rfl
      simp only [Act.put, List.getElem_toArray, List.getElem_cons_zero, List.getElem_cons_succ, List.setIfInBounds_toArray, List.set_cons_zero, List.set_cons_succ]
      refine wpAnyH_ready (rs := [1]) (by kernel_rfl) (by simp) ?_
      refine AllReadyH.cons rfl (fun K hK => ?_) AllReadyH.nil
      go_simp
      refine (closingC_any fr tz o l n tn (some ⟨g, 0, none⟩) len cp _ EQ0.out).mono ?_
      rintro e w9 ⟨rfl, bb⟩
      refine hK.out _ _ (⟨SX.out _ (hHeld.2.trans (bb.mono hHeld.2.size)), hHeld.2.trans (bb.mono hHeld.2.size)⟩) (fun hHeld => ?_)
      clear hK K bb
      refine wpAnyH_ready (rs := [3]) (by kernel_rfl) (by simp) ?_
      refine AllReadyH.cons rfl (fun K hK => ?_) AllReadyH.nil
      go_simp
      refine (closingR_any fr tz o l n tn a len cap _ EQ0.out).mono ?_
      rintro e w9 ⟨rfl, bb⟩
      refine hK.out _ _ (⟨SX.out _ (hHeld.2.trans (bb.mono hHeld.2.size)), hHeld.2.trans (bb.mono hHeld.2.size)⟩) (fun hHeld => ?_)
      clear hK K bb
      refine wpAnyH_take (i := 4) (v := ?_) rfl (by kernel_rfl) (by kernel_rfl) (by kernel_rfl) (fun _ _ _ h => h) (Or.inl ⟨by rfl, ?_⟩) (by assumption) ?_
      rotate_left
      · intro w hSw
        go_simp
        try with_reducible rfl
      simp only [Act.put, List.getElem_toArray, List.getElem_cons_zero, List.getElem_cons_succ, List.setIfInBounds_toArray, List.set_cons_zero, List.set_cons_succ]
      refine wpAnyH_take (i := 5) (v := ?_) rfl (by kernel_rfl) (by kernel_rfl) (by kernel_rfl) (fun _ _ _ h => h) (Or.inl ⟨by rfl, ?_⟩) (by assumption) ?_
      rotate_left
      · intro w hSw
        go_simp
        try with_reducible rfl
      simp only [Act.put, List.getElem_toArray, List.getElem_cons_zero, List.getElem_cons_succ, List.setIfInBounds_toArray, List.set_cons_zero, List.set_cons_succ]
      refine wpAnyH_take (i := 6) (v := ?_) rfl (by kernel_rfl) (by kernel_rfl) (by kernel_rfl) (fun _ _ _ h => h) (Or.inl ⟨by rfl, ?_⟩) (by assumption) ?_
      rotate_left
      · intro w hSw
        go_simp
        try with_reducible rfl
      simp only [Act.put, List.getElem_toArray, List.getElem_cons_zero, List.getElem_cons_succ, List.setIfInBounds_toArray, List.set_cons_zero, List.set_cons_succ]
      refine wpAnyH_take (i := 8) (v := ?_) rfl (by kernel_rfl) (by kernel_rfl) (by kernel_rfl) (fun _ _ _ h => h) (Or.inl ⟨by rfl, ?_⟩) (by assumption) ?_
      rotate_left
      · intro w hSw
        go_simp
        try with_reducible rfl
      simp only [Act.put, List.getElem_toArray, List.getElem_cons_zero, List.getElem_cons_succ, List.setIfInBounds_toArray, List.set_cons_zero, List.set_cons_succ]
      refine wpAnyH_ready (rs := [7]) (by kernel_rfl) (by simp) ?_
      refine AllReadyH.cons rfl (fun K hK => ?_) AllReadyH.nil
      go_simp
      refine (entriesC_any fr tz o l n tn (some ⟨g, 0, none⟩) len cp (UQ P' Q2) _ (HU.out.keep hHeld.2) HTU.out EU.out).mono ?_
      rintro e w9 ⟨rfl, bb⟩
      refine hK.out _ _ (⟨SX.out _ (hHeld.2.trans (bb.mono hHeld.2.size)), hHeld.2.trans (bb.mono hHeld.2.size)⟩) (fun hHeld => ?_)
      clear hK K bb
      refine wpAnyH_ready (rs := [9]) (by kernel_rfl) (by simp) ?_
      refine AllReadyH.cons rfl (fun K hK => ?_) AllReadyH.nil
      go_simp
      refine (entriesR_any fr tz o l n tn a len cap P _ (HP.out.keep hHeld.2) HTP.out EP.out).mono ?_
      rintro e w9 ⟨rfl, bb⟩
      refine hK.out _ _ (⟨SX.out _ (hHeld.2.trans (bb.mono hHeld.2.size)), hHeld.2.trans (bb.mono hHeld.2.size)⟩) (fun hHeld => ?_)
      clear hK K bb
      refine wpAnyH_take (i := 10) (v := ?_) rfl (by kernel_rfl) (by kernel_rfl) (by kernel_rfl) (fun _ _ _ h => h) (Or.inl ⟨by rfl, ?_⟩) (by assumption) ?_
      rotate_left
      · intro w hSw
        go_simp
        try with_reducible rfl
      simp only [Act.put, List.getElem_toArray, List.getElem_cons_zero, List.getElem_cons_succ, List.setIfInBounds_toArray, List.set_cons_zero, List.set_cons_succ]
      refine wpAnyH_take (i := 11) (v := ?_) rfl (by kernel_rfl) (by kernel_rfl) (by kernel_rfl) (fun _ _ _ h => h) (Or.inl ⟨by rfl, ?_⟩) (by assumption) ?_
      rotate_left
      · intro w hSw
        go_simp
        try with_reducible rfl
      simp only [Act.put, List.getElem_toArray, List.getElem_cons_zero, List.getElem_cons_succ, List.setIfInBounds_toArray, List.set_cons_zero, List.set_cons_succ]
      refine wpAnyH_take (i := 12) (v := ?_) rfl (by kernel_rfl) (by kernel_rfl) (by kernel_rfl) (fun _ _ _ h => h) (Or.inl ⟨by rfl, ?_⟩) (by assumption) ?_
      rotate_left
      · intro w hSw
        go_simp
        try with_reducible rfl
      simp only [Act.put, List.getElem_toArray, List.getElem_cons_zero, List.getElem_cons_succ, List.setIfInBounds_toArray, List.set_cons_zero, List.set_cons_succ]
      refine wpAnyH_take (i := 13) (v := ?_) rfl (by kernel_rfl) (by kernel_rfl) (by kernel_rfl) (fun _ _ _ h => h) (Or.inl ⟨by rfl, ?_⟩) (by assumption) ?_
      rotate_left
      · intro w hSw
        go_simp
        try with_reducible rfl
      simp only [Act.put, List.getElem_toArray, List.getElem_cons_zero, List.getElem_cons_succ, List.setIfInBounds_toArray, List.set_cons_zero, List.set_cons_succ]
      refine wpAnyH_take (i := 14) (v := ?_) rfl (by kernel_rfl) (by kernel_rfl) (by kernel_rfl) (fun _ _ _ h => h) (Or.inl ⟨by rfl, ?_⟩) (by assumption) ?_
      rotate_left
      · intro w hSw
        go_simp
        try with_reducible rfl
      simp only [Act.put, List.getElem_toArray, List.getElem_cons_zero, List.getElem_cons_succ, List.setIfInBounds_toArray, List.set_cons_zero, List.set_cons_succ]
      refine wpAnyH_take (i := 16) (v := ?_) rfl (by kernel_rfl) (by kernel_rfl) (by kernel_rfl) (fun _ _ _ h => h) (Or.inl ⟨by rfl, ?_⟩) (by assumption) ?_
      rotate_left
      · intro w hSw
        go_simp
        try with_reducible rfl
      simp only [Act.put, List.getElem_toArray, List.getElem_cons_zero, List.getElem_cons_succ, List.setIfInBounds_toArray, List.set_cons_zero, List.set_cons_succ]
      refine wpAnyH_take (i := 17) (v := ?_) rfl (by kernel_rfl) (by kernel_rfl) (by kernel_rfl) (fun _ _ _ h => h) (Or.inl ⟨by rfl, ?_⟩) (by assumption) ?_
      rotate_left
      · intro w hSw
        go_simp
        try with_reducible rfl
      simp only [Act.put, List.getElem_toArray, List.getElem_cons_zero, List.getElem_cons_succ, List.setIfInBounds_toArray, List.set_cons_zero, List.set_cons_succ]
      refine wpAnyH_ready (rs := [15]) (by kernel_rfl) (by simp) ?_
      refine AllReadyH.cons rfl (fun K hK => ?_) AllReadyH.nil
      go_simp
      refine (sameF_q fr tz o l n tn fr2 tz2 o2 l2 n2 tn2 (some ⟨g, 0, none⟩) len cp (UQ P' Q2) b len2 cb R _ (HU.out.keep hHeld.2) (HR.out.keep hHeld.2) QU.out).mono ?_
      rintro e w9 ⟨rfl, bb⟩
      refine hK.out _ _ (⟨SX.out _ (hHeld.2.trans (bb.mono hHeld.2.size)), hHeld.2.trans (bb.mono hHeld.2.size)⟩) (fun hHeld => ?_)
      clear hK K bb
      refine wpAnyH_ready (rs := [18]) (by kernel_rfl) (by simp) ?_
      refine AllReadyH.cons rfl (fun K hK => ?_) AllReadyH.nil
      go_simp
      refine (same_q fr tz o l n tn fr2 tz2 o2 l2 n2 tn2 a len cap P b len2 cb R _ (HP.out.keep hHeld.2) (HR.out.keep hHeld.2) QP.out).mono ?_
      rintro e w9 ⟨rfl, bb⟩
      refine hK.out _ _ (⟨SX.out _ (hHeld.2.trans (bb.mono hHeld.2.size)), hHeld.2.trans (bb.mono hHeld.2.size)⟩) (fun hHeld => ?_)
      clear hK K bb
      refine wpAnyH_take (i := 19) (v := ?_) rfl (by kernel_rfl) (by kernel_rfl) (by kernel_rfl) (fun _ _ _ h => h) (Or.inl ⟨by rfl, ?_⟩) (by assumption) ?_
      rotate_left
      · intro w hSw
        go_simp
        try with_reducible rfl
      simp only [Act.put, List.getElem_toArray, List.getElem_cons_zero, List.getElem_cons_succ, List.setIfInBounds_toArray, List.set_cons_zero, List.set_cons_succ]
      refine wpAnyH_take (i := 20) (v := ?_) rfl (by kernel_rfl) (by kernel_rfl) (by kernel_rfl) (fun _ _ _ h => h) (Or.inl ⟨by rfl, ?_⟩) (by assumption) ?_
      rotate_left
      · intro w hSw
        go_simp
        try with_reducible rfl
      simp only [Act.put, List.getElem_toArray, List.getElem_cons_zero, List.getElem_cons_succ, List.setIfInBounds_toArray, List.set_cons_zero, List.set_cons_succ]
      refine wpAnyH_take (i := 21) (v := ?_) rfl (by kernel_rfl) (by kernel_rfl) (by kernel_rfl) (fun _ _ _ h => h) (Or.inl ⟨by rfl, ?_⟩) (by assumption) ?_
      rotate_left
      · intro w hSw
        go_simp
        try with_reducible rfl
      simp only [Act.put, List.getElem_toArray, List.getElem_cons_zero, List.getElem_cons_succ, List.setIfInBounds_toArray, List.set_cons_zero, List.set_cons_succ]
      refine wpAnyH_take (i := 22) (v := ?_) rfl (by kernel_rfl) (by kernel_rfl) (by kernel_rfl) (fun _ _ _ h => h) (Or.inl ⟨by rfl, ?_⟩) (by assumption) ?_
      rotate_left
      · intro w hSw
        go_simp
        try with_reducible rfl
      simp only [Act.put, List.getElem_toArray, List.getElem_cons_zero, List.getElem_cons_succ, List.setIfInBounds_toArray, List.set_cons_zero, List.set_cons_succ]
      refine wpAnyH_take (i := 23) (v := ?_) rfl (by kernel_rfl) (by kernel_rfl) (by kernel_rfl) (fun _ _ _ h => h) (Or.inl ⟨by rfl, ?_⟩) (by assumption) ?_
      rotate_left
      · intro w hSw
        go_simp
        try with_reducible rfl
      simp only [Act.put, List.getElem_toArray, List.getElem_cons_zero, List.getElem_cons_succ, List.setIfInBounds_toArray, List.set_cons_zero, List.set_cons_succ]
      refine wpAnyH_ready (rs := [24]) (by kernel_rfl) (by simp) ?_
      refine AllReadyH.cons rfl (fun K hK => ?_) AllReadyH.nil
      go_simp
      refine (sameF_q fr tz o l n tn fr tz o l n tn (some ⟨g, 0, none⟩) len cp (UQ P' Q2) a len cap P _ (HU.out.keep hHeld.2) (HP.out.keep hHeld.2) (frSame_yes HSU.out)).mono ?_
      rintro e w9 ⟨rfl, bb⟩
      refine hK.out _ _ (⟨SX.out _ (hHeld.2.trans (bb.mono hHeld.2.size)), hHeld.2.trans (bb.mono hHeld.2.size)⟩) (fun hHeld => ?_)
      clear hK K bb
      refine wpAnyH_take (i := 25) (v := ?_) rfl (by kernel_rfl) (by kernel_rfl) (by kernel_rfl) (fun _ _ _ h => h) (Or.inl ⟨by rfl, ?_⟩) (by assumption) ?_
      rotate_left
      · intro w hSw
        go_simp
        try with_reducible rfl
      simp only [Act.put, List.getElem_toArray, List.getElem_cons_zero, List.getElem_cons_succ, List.setIfInBounds_toArray, List.set_cons_zero, List.set_cons_succ]
      refine wpAnyH_take (i := 26) (v := ?_) rfl (by kernel_rfl) (by kernel_rfl) (by kernel_rfl) (fun _ _ _ h => h) (Or.inl ⟨by rfl, ?_⟩) (by assumption) ?_
      rotate_left
      · intro w hSw
        go_simp
        try with_reducible rfl
      simp only [Act.put, List.getElem_toArray, List.getElem_cons_zero, List.getElem_cons_succ, List.setIfInBounds_toArray, List.set_cons_zero, List.set_cons_succ]
      refine wpAnyH_take (i := 27) (v := ?_) rfl (by kernel_rfl) (by kernel_rfl) (by kernel_rfl) (fun _ _ _ h => h) (Or.inl ⟨by rfl, ?_⟩) (by assumption) ?_
      rotate_left
      · intro w hSw
        go_simp
        try with_reducible rfl
      simp only [Act.put, List.getElem_toArray, List.getElem_cons_zero, List.getElem_cons_succ, List.setIfInBounds_toArray, List.set_cons_zero, List.set_cons_succ]
      refine wpAnyH_take (i := 28) (v := ?_) rfl (by kernel_rfl) (by kernel_rfl) (by kernel_rfl) (fun _ _ _ h => h) (Or.inl ⟨by rfl, ?_⟩) (by assumption) ?_
      rotate_left
      · intro w hSw
        go_simp
        try with_reducible rfl
      simp only [Act.put, List.getElem_toArray, List.getElem_cons_zero, List.getElem_cons_succ, List.setIfInBounds_toArray, List.set_cons_zero, List.set_cons_succ]
      refine wpAnyH_take (i := 29) (v := ?_) rfl (by kernel_rfl) (by kernel_rfl) (by kernel_rfl) (fun _ _ _ h => h) (Or.inl ⟨by rfl, ?_⟩) (by assumption) ?_
      rotate_left
      · intro w hSw
        go_simp
        try with_reducible rfl
      simp only [Act.put, List.getElem_toArray, List.getElem_cons_zero, List.getElem_cons_succ, List.setIfInBounds_toArray, List.set_cons_zero, List.set_cons_succ]
      refine wpAnyH_ready (rs := [30]) (by kernel_rfl) (by simp) ?_
      refine AllReadyH.cons rfl (fun K hK => ?_) AllReadyH.nil
      go_simp
      refine (sameF_q fr tz o l n tn fr tz o l n tn (some ⟨gc, 0, none⟩) len cc PC (some ⟨g, 0, none⟩) len cp (UQ P' Q2) _ (HC.out.keep hHeld.2) (HU.out.keep hHeld.2) (frSame_yes HSC.out)).mono ?_
      rintro e w9 ⟨rfl, bb⟩
      refine hK.out _ _ (⟨SX.out _ (hHeld.2.trans (bb.mono hHeld.2.size)), hHeld.2.trans (bb.mono hHeld.2.size)⟩) (fun hHeld => ?_)
      clear hK K bb
      refine wpAnyH_take (i := 31) (v := ?_) rfl (by kernel_rfl) (by kernel_rfl) (by kernel_rfl) (fun _ _ _ h => h) (Or.inl ⟨by rfl, ?_⟩) (by assumption) ?_
      rotate_left
      · intro w hSw
        go_simp
        try with_reducible rfl
      simp only [Act.put, List.getElem_toArray, List.getElem_cons_zero, List.getElem_cons_succ, List.setIfInBounds_toArray, List.set_cons_zero, List.set_cons_succ]
      refine wpAnyH_take (i := 32) (v := ?_) rfl (by kernel_rfl) (by kernel_rfl) (by kernel_rfl) (fun _ _ _ h => h) (Or.inl ⟨by rfl, ?_⟩) (by assumption) ?_
      rotate_left
      · intro w hSw
        go_simp
        try with_reducible rfl
      simp only [Act.put, List.getElem_toArray, List.getElem_cons_zero, List.getElem_cons_succ, List.setIfInBounds_toArray, List.set_cons_zero, List.set_cons_succ]
      refine wpAnyH_done (by kernel_rfl) ?_ _

      obtain ⟨-, bz⟩ := hHeld
      clear SX
      replace K4 := aside (blk_on K4.out bz)
      replace K1 := aside (blk_on K1.out bz)
      replace K2 := aside (blk_on K2.out bz)
      replace HL := aside (HL.out.on bz)
      replace HP := aside (HP.out.keep bz)
      replace HO := aside (HO.out.on bz)
      replace HC := aside (HC.out.keep bz)
      replace BY := aside (bthen BY.out bz)
      clear bz
      obtain ⟨f0, f1, f2, f3, f4, f5, f6⟩ := sep7 K1.out
      obtain ⟨h0, h1, h2, h3, h4, h5, h6⟩ := sep7 K4.out
      have CS := aside (same_q fr tz o l n tn fr tz o l n tn (some ⟨gc, 0, none⟩) len cc PC a len cap P _ HC.out HP.out (frSame_yes (fun i hi => samePm_trans (HSC.out i hi) (HSU.out i hi))))
      go_wp2_with fail
      refine CS.out.mono ?_
      rintro e Y1 ⟨rfl, bz⟩
      replace K4 := aside (blk_on K4.out bz)
      replace K1 := aside (blk_on K1.out bz)
      replace K2 := aside (blk_on K2.out bz)
      replace HL := aside (HL.out.on bz)
      replace HP := aside (HP.out.keep bz)
      replace HO := aside (HO.out.on bz)
      replace BY := aside (bthen BY.out bz)
      clear bz CS HC f0 f1 f2 f3 f4 f5 f6 h0 h1 h2 h3 h4 h5 h6
      obtain ⟨f0, f1, f2, f3, f4, f5, f6⟩ := sep7 K1.out
      obtain ⟨h0, h1, h2, h3, h4, h5, h6⟩ := sep7 K2.out
      have CT := aside (still_any fr tz o l n tn _ g len cp P' Q2 a cap P _ HL.out HP.out HS.out)
      go_wp2_with fail
      refine CT.out.mono ?_
      rintro e Y2 ⟨rfl, bz⟩
      replace K4 := aside (blk_on K4.out bz)
      replace HO := aside (HO.out.on bz)
      replace BY := aside (bthen BY.out bz)
      clear bz CT HL HP K1 K2 f0 f1 f2 f3 f4 f5 f6 h0 h1 h2 h3 h4 h5 h6
      obtain ⟨h0, h1, h2, h3, h4, h5, h6⟩ := sep7 K4.out
      have CP := aside (spoil_any fr tz o l n tn X5.heap.size gc len cc PC _ HO.out (by have := HT.out; omega) (fun i hi => by have h1 := totE_eachT (P := P) hi; have h2 := HT.out; have h3 := (HSC.out i hi).2.2.2.2.2.2.2.1; have h4 := (HSU.out i hi).2.2.2.2.2.2.2.1; omega))
      go_wp2_with fail
      refine CP.out.mono ?_
      rintro e Y3 ⟨rfl, bz⟩
      replace BY := aside (BY.out.trans bz)
      clear bz CP HO K4 h0 h1 h2 h3 h4 h5 h6
      have KA := aside (blk_on K15.out BY.out)
      have KB := aside (blk_on K25.out BY.out)
      obtain ⟨f0, f1, f2, f3, f4, f5, f6⟩ := sep7 KA.out
      obtain ⟨h0, h1, h2, h3, h4, h5, h6⟩ := sep7 KB.out
      have CT := aside (still_any fr tz o l n tn _ g len cp P' Q2 a cap P _ (HL5.out.on BY.out) (HP5.out.keep BY.out) HS.out)
      go_wp2_with fail
      refine CT.out.mono ?_
      rintro e Y4 ⟨rfl, bz⟩
      have BF := aside (bthen (bthen BB5.out BY.out) bz)
      clear bz CT
      go_wp2_with fail
      exact bodyPost_ret (v := .bool true) (by simp [results, Try.results4, go_sem]) rfl ⟨rfl, BF.out⟩
    · go_wp2_with fail
      exact bodyPost_ret (v := .bool true) (by simp [results, Try.results4, go_sem]) rfl ⟨rfl, BB.out⟩
  · clear hq
    go_wp2_with fail
    exact bodyPost_ret (v := .bool true) (by simp [results, Try.results4, go_sem]) rfl ⟨rfl, BB.out⟩
end Go.Proofs.Ytoabncoigleiaaa

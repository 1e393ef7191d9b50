/-
  The law WireOnce, walked.
-/
import Derived.Test.YtbnppmkdhnpdfaaBw16
import Derived.Test.YtbnppmkdhnpdfaaBw11
import Derived.Deep.CutBlock
import Derived.Deep.DeepCutAuto
namespace Go.Proofs.Ytbnppmkdhnpdfaa
open Go.RowKit
set_option linter.unusedVariables false
set_option maxRecDepth 100000 in
set_option maxHeartbeats 12800000 in
theorem wonce_walk (a : Option Addr) (la ca : Nat) (La : List UInt8) (b : Option Addr) (lb cb : Nat) (Lb : List UInt8) (w : World) (hA : ArgB w a la ca La) (hB : ArgB w b lb cb Lb) :
    Calls Try.prog 6 #[.slice a la ca, .slice b lb cb] w fun e w' => e = .returned (.bool true) ∧ Below w.heap.size w w' := by
  have HA := aside hA
  have HB := aside hB
  clear hA hB
  go_enter Try.func6, Try.ntmps6
  go_wp2_with fail
  refine (shown_any w).mono ?_
  rintro r w1 ⟨rfl, b1⟩
  replace HA := aside (HA.out.later b1)
  replace HB := aside (HB.out.later b1)
  have BB := aside b1
  clear b1
  go_wp2_with fail
  refine (dec_any a la ca La w1 (fun w' b => (HA.out.later b).reads) HA.out.1.symm).mono ?_
  rintro r X1 ⟨b2, ⟨-, rfl⟩ | ⟨⟨fr, tz, o, lf, n, tn, ps⟩, pa, pn, pc, hd, rfl, hpr⟩⟩
  · replace HA := aside (HA.out.later b2)
    replace HB := aside (HB.out.later b2)
    replace BB := aside (bthen BB.out b2)
    clear b2
    have bn := bnew X1 (.cells #[.int .i64 0, .int .i64 0, .int .i64 0, .int .i64 0, .int .i64 0, .int .i64 0, .slice none 0 0] 26)
    have K5 := aside (heap_alloc_new X1 (.cells #[.int .i64 0, .int .i64 0, .int .i64 0, .int .i64 0, .int .i64 0, .int .i64 0, .slice none 0 0] 26))
    replace HA := aside (HA.out.later bn)
    replace HB := aside (HB.out.later bn)
    replace BB := aside (bthen BB.out bn)
    clear bn
    go_upto_region 4 with fail
    obtain ⟨i5, hi5⟩ : ∃ i5, X1.heap.size = i5 := ⟨_, rfl⟩
    rw [hi5] at K5 ⊢
    clear hi5
    generalize X1.alloc (.cells #[.int .i64 0, .int .i64 0, .int .i64 0, .int .i64 0, .int .i64 0, .int .i64 0, .slice none 0 0] 26) = X2 at HA HB BB K5 ⊢
    go_wp2_with fail
    refine (dec_any b lb cb Lb X2 (fun w' b => (HB.out.later b).reads) HB.out.1.symm).mono ?_
    rintro r X3 ⟨b3, hcase⟩
    replace K5 := aside (blk_on K5.out b3)
    replace BB := aside (bthen BB.out b3)
    clear b3
    rcases hcase with ⟨-, rfl⟩ | ⟨⟨fr2, tz2, o2, lf2, n2, tn2, ps2⟩, pa2, pn2, pc2, -, rfl, -⟩
    · have bn := bnew X3 (.cells #[.int .i64 0, .int .i64 0, .int .i64 0, .int .i64 0, .int .i64 0, .int .i64 0, .slice none 0 0] 26)
      replace K5 := aside (blk_on K5.out bn)
      replace BB := aside (bthen BB.out bn)
      clear bn
      go_upto_region 5 with fail
      generalize X3.alloc (.cells #[.int .i64 0, .int .i64 0, .int .i64 0, .int .i64 0, .int .i64 0, .int .i64 0, .slice none 0 0] 26) = X4 at K5 BB ⊢
      have z0 : X4.cell? ⟨i5, 0, none⟩ = some (.int .i64 0) := by rw [cell_of_row _ _ 0 _ _ _ K5.out]; rfl
      have z1 : X4.cell? ⟨i5, 1, none⟩ = some (.int .i64 0) := by rw [cell_of_row _ _ 1 _ _ _ K5.out]; rfl
      have z2 : X4.cell? ⟨i5, 2, none⟩ = some (.int .i64 0) := by rw [cell_of_row _ _ 2 _ _ _ K5.out]; rfl
      have z3 : X4.cell? ⟨i5, 3, none⟩ = some (.int .i64 0) := by rw [cell_of_row _ _ 3 _ _ _ K5.out]; rfl
      have z4 : X4.cell? ⟨i5, 4, none⟩ = some (.int .i64 0) := by rw [cell_of_row _ _ 4 _ _ _ K5.out]; rfl
      have z5 : X4.cell? ⟨i5, 5, none⟩ = some (.int .i64 0) := by rw [cell_of_row _ _ 5 _ _ _ K5.out]; rfl
      have z6 : X4.cell? ⟨i5, 6, none⟩ = some (.slice none 0 0) := by rw [cell_of_row _ _ 6 _ _ _ K5.out]; rfl
      go_wp2_with fail
      refine (same_any 0 0 0 0 0 0 0 0 0 0 0 0 none 0 0 (fun _ => pm0) none 0 0 (fun _ => pm0) X4 ⟨Nat.le_refl _, by unfold maxLen; omega, .inl rfl⟩ ⟨Nat.le_refl _, by unfold maxLen; omega, .inl rfl⟩).mono ?_
      rintro r X5 ⟨⟨-, rfl⟩ | ⟨hno, -⟩, b5⟩
      rotate_left
      · exact absurd ⟨⟨rfl, rfl, rfl, rfl, rfl, rfl⟩, rfl, fun i hi => by omega⟩ hno
      replace BB := aside (bthen BB.out b5)
      clear b5 z0 z1 z2 z3 z4 z5 z6
      go_wp2
      go_ret
      exact ⟨rfl, BB.out⟩
    · dsimp only
      have bn := bnew X3 (.cells #[.int .i64 fr2, .int .i64 tz2, .int .i64 o2, .int .i64 lf2, .int .i64 n2, .int .i64 tn2, .slice pa2 pn2 pc2] 26)
      replace K5 := aside (blk_on K5.out bn)
      replace BB := aside (bthen BB.out bn)
      clear bn
      go_upto_region 5 with fail
      generalize X3.alloc (.cells #[.int .i64 fr2, .int .i64 tz2, .int .i64 o2, .int .i64 lf2, .int .i64 n2, .int .i64 tn2, .slice pa2 pn2 pc2] 26) = X4 at K5 BB ⊢
      have z0 : X4.cell? ⟨i5, 0, none⟩ = some (.int .i64 0) := by rw [cell_of_row _ _ 0 _ _ _ K5.out]; rfl
      have z1 : X4.cell? ⟨i5, 1, none⟩ = some (.int .i64 0) := by rw [cell_of_row _ _ 1 _ _ _ K5.out]; rfl
      have z2 : X4.cell? ⟨i5, 2, none⟩ = some (.int .i64 0) := by rw [cell_of_row _ _ 2 _ _ _ K5.out]; rfl
      have z3 : X4.cell? ⟨i5, 3, none⟩ = some (.int .i64 0) := by rw [cell_of_row _ _ 3 _ _ _ K5.out]; rfl
      have z4 : X4.cell? ⟨i5, 4, none⟩ = some (.int .i64 0) := by rw [cell_of_row _ _ 4 _ _ _ K5.out]; rfl
      have z5 : X4.cell? ⟨i5, 5, none⟩ = some (.int .i64 0) := by rw [cell_of_row _ _ 5 _ _ _ K5.out]; rfl
      have z6 : X4.cell? ⟨i5, 6, none⟩ = some (.slice none 0 0) := by rw [cell_of_row _ _ 6 _ _ _ K5.out]; rfl
      go_wp2_with fail
      refine (same_any 0 0 0 0 0 0 0 0 0 0 0 0 none 0 0 (fun _ => pm0) none 0 0 (fun _ => pm0) X4 ⟨Nat.le_refl _, by unfold maxLen; omega, .inl rfl⟩ ⟨Nat.le_refl _, by unfold maxLen; omega, .inl rfl⟩).mono ?_
      rintro r X5 ⟨⟨-, rfl⟩ | ⟨hno, -⟩, b5⟩
      rotate_left
      · exact absurd ⟨⟨rfl, rfl, rfl, rfl, rfl, rfl⟩, rfl, fun i hi => by omega⟩ hno
      replace BB := aside (bthen BB.out b5)
      clear b5 z0 z1 z2 z3 z4 z5 z6
      go_wp2
      go_ret
      exact ⟨rfl, BB.out⟩
  · obtain ⟨P, hP⟩ := hpr
    dsimp only at hP ⊢
    have HF := aside (decF_inv hd)
    have HPA := aside hP
    have HD := aside hd
    replace HA := aside (HA.out.later b2)
    replace HB := aside (HB.out.later b2)
    replace BB := aside (bthen BB.out b2)
    clear b2 hP hd
    have bn := bnew X1 (.cells #[.int .i64 fr, .int .i64 tz, .int .i64 o, .int .i64 lf, .int .i64 n, .int .i64 tn, .slice pa pn pc] 26)
    have K5 := aside (heap_alloc_new X1 (.cells #[.int .i64 fr, .int .i64 tz, .int .i64 o, .int .i64 lf, .int .i64 n, .int .i64 tn, .slice pa pn pc] 26))
    replace HA := aside (HA.out.later bn)
    replace HB := aside (HB.out.later bn)
    replace BB := aside (bthen BB.out bn)
    replace HPA := aside (HPA.out.keep (Keeps.of_below bn (fun _ => False)) (fun k h => h.elim))
    clear bn
    go_upto_region 4 with fail
    obtain ⟨i5, hi5⟩ : ∃ i5, X1.heap.size = i5 := ⟨_, rfl⟩
    rw [hi5] at K5 ⊢
    clear hi5
    generalize X1.alloc (.cells #[.int .i64 fr, .int .i64 tz, .int .i64 o, .int .i64 lf, .int .i64 n, .int .i64 tn, .slice pa pn pc] 26) = X2 at HA HB BB K5 HPA ⊢
    go_wp2_with fail
    refine (dec_any b lb cb Lb X2 (fun w' b => (HB.out.later b).reads) HB.out.1.symm).mono ?_
    rintro r X3 ⟨b3, hcase⟩
    replace HA := aside (HA.out.later b3)
    replace HB := aside (HB.out.later b3)
    replace BB := aside (bthen BB.out b3)
    replace HPA := aside (HPA.out.keep (Keeps.of_below b3 (fun _ => False)) (fun k h => h.elim))
    replace K5 := aside (blk_on K5.out b3)
    clear b3
    rcases hcase with ⟨-, rfl⟩ | ⟨⟨fr2, tz2, o2, lf2, n2, tn2, ps2⟩, pa2, pn2, pc2, hd2, rfl, hpr2⟩
    · have bn := bnew X3 (.cells #[.int .i64 0, .int .i64 0, .int .i64 0, .int .i64 0, .int .i64 0, .int .i64 0, .slice none 0 0] 26)
      have K7 := aside (heap_alloc_new X3 (.cells #[.int .i64 0, .int .i64 0, .int .i64 0, .int .i64 0, .int .i64 0, .int .i64 0, .slice none 0 0] 26))
      replace HA := aside (HA.out.later bn)
      replace HB := aside (HB.out.later bn)
      replace BB := aside (bthen BB.out bn)
      replace HPA := aside (HPA.out.keep (Keeps.of_below bn (fun _ => False)) (fun k h => h.elim))
      replace K5 := aside (blk_on K5.out bn)
      clear bn
      go_upto_region 5 with fail
      obtain ⟨i7, hi7⟩ : ∃ i7, X3.heap.size = i7 := ⟨_, rfl⟩
      rw [hi7] at K7 ⊢
      clear hi7
      generalize X3.alloc (.cells #[.int .i64 0, .int .i64 0, .int .i64 0, .int .i64 0, .int .i64 0, .int .i64 0, .slice none 0 0] 26) = X4 at K5 K7 BB HA HB HPA  ⊢
      have z0 : X4.cell? ⟨i5, 0, none⟩ = some (.int .i64 fr) := by rw [cell_of_row _ _ 0 _ _ _ K5.out]; rfl
      have z1 : X4.cell? ⟨i5, 1, none⟩ = some (.int .i64 tz) := by rw [cell_of_row _ _ 1 _ _ _ K5.out]; rfl
      have z2 : X4.cell? ⟨i5, 2, none⟩ = some (.int .i64 o) := by rw [cell_of_row _ _ 2 _ _ _ K5.out]; rfl
      have z3 : X4.cell? ⟨i5, 3, none⟩ = some (.int .i64 lf) := by rw [cell_of_row _ _ 3 _ _ _ K5.out]; rfl
      have z4 : X4.cell? ⟨i5, 4, none⟩ = some (.int .i64 n) := by rw [cell_of_row _ _ 4 _ _ _ K5.out]; rfl
      have z5 : X4.cell? ⟨i5, 5, none⟩ = some (.int .i64 tn) := by rw [cell_of_row _ _ 5 _ _ _ K5.out]; rfl
      have z6 : X4.cell? ⟨i5, 6, none⟩ = some (.slice pa pn pc) := by rw [cell_of_row _ _ 6 _ _ _ K5.out]; rfl
      have hfc : fChk fr tz o lf n tn P pn = 0 := by rw [fChk_ext HPA.out.same, ← HPA.out.len]; exact HF.out.2.1
      have HFC := aside hfc
      have HPI := aside (HPA.out.parts (fun v hv => (HF.out.1.ps v hv).keys))
      have HPS := aside (rd_ps HPA.out)
      have hu0 : ∀ i, i < pn → 0 ≤ (P i).s0 ∧ 0 ≤ (P i).s1 := fun i hi => by
        obtain ⟨v, hv, -⟩ := at_of_lt (vs := ps) (i := i) (by rw [HPA.out.len]; exact hi)
        obtain ⟨q1, q2, q3, q4, q5, q6, q7, q8, q9⟩ := HPA.out.ent i v hv
        omega
      go_wp2_with fail
      refine (enc_ok fr tz o lf n tn pa pn pc P X4 HPI.out (HPA.out.tot (by rw [← HPA.out.len]; exact HF.out.1.len) HF.out.1.ps) hfc (by rw [HPS.out]; exact HF.out.1) hu0).mono ?_
      rintro r X5 ⟨v5, rfl, own5, b5⟩
      rw [HPS.out, ← HF.out.2.2.1] at own5
      have OW := aside own5
      replace HA := aside (HA.out.later b5)
      replace HB := aside (HB.out.later b5)
      replace BB := aside (bthen BB.out b5)
      replace HPA := aside (HPA.out.keep (Keeps.of_below b5 (fun _ => False)) (fun k h => h.elim))
      replace K5 := aside (blk_on K5.out b5)
      replace K7 := aside (blk_on K7.out b5)
      replace HPI := aside (HPI.out.keep b5)
      clear b5 own5 hfc hu0 z0 z1 z2 z3 z4 z5 z6
      have q1 := conv_own X5 _ v5 La OW.out
      have q2 := HA.out.reads.now
      have z0 : X5.cell? ⟨i5, 0, none⟩ = some (.int .i64 fr) := by rw [cell_of_row _ _ 0 _ _ _ K5.out]; rfl
      have z1 : X5.cell? ⟨i5, 1, none⟩ = some (.int .i64 tz) := by rw [cell_of_row _ _ 1 _ _ _ K5.out]; rfl
      have z2 : X5.cell? ⟨i5, 2, none⟩ = some (.int .i64 o) := by rw [cell_of_row _ _ 2 _ _ _ K5.out]; rfl
      have z3 : X5.cell? ⟨i5, 3, none⟩ = some (.int .i64 lf) := by rw [cell_of_row _ _ 3 _ _ _ K5.out]; rfl
      have z4 : X5.cell? ⟨i5, 4, none⟩ = some (.int .i64 n) := by rw [cell_of_row _ _ 4 _ _ _ K5.out]; rfl
      have z5 : X5.cell? ⟨i5, 5, none⟩ = some (.int .i64 tn) := by rw [cell_of_row _ _ 5 _ _ _ K5.out]; rfl
      have z6 : X5.cell? ⟨i5, 6, none⟩ = some (.slice pa pn pc) := by rw [cell_of_row _ _ 6 _ _ _ K5.out]; rfl
      go_wp2_with fail
      refine (chkR_any fr tz o lf n tn pa pn pc P X5 HPI.out).mono ?_
      rintro r X6 ⟨rfl, b6⟩
      rw [HFC.out]
      replace HA := aside (HA.out.later b6)
      replace HB := aside (HB.out.later b6)
      replace BB := aside (bthen BB.out b6)
      replace HPA := aside (HPA.out.keep (Keeps.of_below b6 (fun _ => False)) (fun k h => h.elim))
      replace K5 := aside (blk_on K5.out b6)
      replace K7 := aside (blk_on K7.out b6)
      clear b6 q1 q2 OW HPI z0 z1 z2 z3 z4 z5 z6
      go_wp2
      go_ret
      exact ⟨rfl, BB.out⟩
    · obtain ⟨Q, hQ⟩ := hpr2
      dsimp only at hQ ⊢
      have HG := aside (decF_inv hd2)
      have HPB := aside hQ
      have HD2 := aside hd2
      clear hQ hd2
      have bn := bnew X3 (.cells #[.int .i64 fr2, .int .i64 tz2, .int .i64 o2, .int .i64 lf2, .int .i64 n2, .int .i64 tn2, .slice pa2 pn2 pc2] 26)
      have K7 := aside (heap_alloc_new X3 (.cells #[.int .i64 fr2, .int .i64 tz2, .int .i64 o2, .int .i64 lf2, .int .i64 n2, .int .i64 tn2, .slice pa2 pn2 pc2] 26))
      replace HA := aside (HA.out.later bn)
      replace HB := aside (HB.out.later bn)
      replace BB := aside (bthen BB.out bn)
      replace HPA := aside (HPA.out.keep (Keeps.of_below bn (fun _ => False)) (fun k h => h.elim))
      replace K5 := aside (blk_on K5.out bn)
      replace HPB := aside (HPB.out.keep (Keeps.of_below bn (fun _ => False)) (fun k h => h.elim))
      clear bn
      go_upto_region 5 with fail
      obtain ⟨i7, hi7⟩ : ∃ i7, X3.heap.size = i7 := ⟨_, rfl⟩
      rw [hi7] at K7 ⊢
      clear hi7
      generalize X3.alloc (.cells #[.int .i64 fr2, .int .i64 tz2, .int .i64 o2, .int .i64 lf2, .int .i64 n2, .int .i64 tn2, .slice pa2 pn2 pc2] 26) = X4 at K5 K7 BB HA HB HPA HPB ⊢
      have z0 : X4.cell? ⟨i5, 0, none⟩ = some (.int .i64 fr) := by rw [cell_of_row _ _ 0 _ _ _ K5.out]; rfl
      have z1 : X4.cell? ⟨i5, 1, none⟩ = some (.int .i64 tz) := by rw [cell_of_row _ _ 1 _ _ _ K5.out]; rfl
      have z2 : X4.cell? ⟨i5, 2, none⟩ = some (.int .i64 o) := by rw [cell_of_row _ _ 2 _ _ _ K5.out]; rfl
      have z3 : X4.cell? ⟨i5, 3, none⟩ = some (.int .i64 lf) := by rw [cell_of_row _ _ 3 _ _ _ K5.out]; rfl
      have z4 : X4.cell? ⟨i5, 4, none⟩ = some (.int .i64 n) := by rw [cell_of_row _ _ 4 _ _ _ K5.out]; rfl
      have z5 : X4.cell? ⟨i5, 5, none⟩ = some (.int .i64 tn) := by rw [cell_of_row _ _ 5 _ _ _ K5.out]; rfl
      have z6 : X4.cell? ⟨i5, 6, none⟩ = some (.slice pa pn pc) := by rw [cell_of_row _ _ 6 _ _ _ K5.out]; rfl
      have hfc : fChk fr tz o lf n tn P pn = 0 := by rw [fChk_ext HPA.out.same, ← HPA.out.len]; exact HF.out.2.1
      have HFC := aside hfc
      have HPI := aside (HPA.out.parts (fun v hv => (HF.out.1.ps v hv).keys))
      have HPS := aside (rd_ps HPA.out)
      have hu0 : ∀ i, i < pn → 0 ≤ (P i).s0 ∧ 0 ≤ (P i).s1 := fun i hi => by
        obtain ⟨v, hv, -⟩ := at_of_lt (vs := ps) (i := i) (by rw [HPA.out.len]; exact hi)
        obtain ⟨q1, q2, q3, q4, q5, q6, q7, q8, q9⟩ := HPA.out.ent i v hv
        omega
      go_wp2_with fail
      refine (enc_ok fr tz o lf n tn pa pn pc P X4 HPI.out (HPA.out.tot (by rw [← HPA.out.len]; exact HF.out.1.len) HF.out.1.ps) hfc (by rw [HPS.out]; exact HF.out.1) hu0).mono ?_
      rintro r X5 ⟨v5, rfl, own5, b5⟩
      rw [HPS.out, ← HF.out.2.2.1] at own5
      have OW := aside own5
      replace HA := aside (HA.out.later b5)
      replace HB := aside (HB.out.later b5)
      replace BB := aside (bthen BB.out b5)
      replace HPA := aside (HPA.out.keep (Keeps.of_below b5 (fun _ => False)) (fun k h => h.elim))
      replace K5 := aside (blk_on K5.out b5)
      replace HPB := aside (HPB.out.keep (Keeps.of_below b5 (fun _ => False)) (fun k h => h.elim))
      replace K7 := aside (blk_on K7.out b5)
      replace HPI := aside (HPI.out.keep b5)
      clear b5 own5 hfc hu0 z0 z1 z2 z3 z4 z5 z6
      have q1 := conv_own X5 _ v5 La OW.out
      have q2 := HA.out.reads.now
      have z0 : X5.cell? ⟨i5, 0, none⟩ = some (.int .i64 fr) := by rw [cell_of_row _ _ 0 _ _ _ K5.out]; rfl
      have z1 : X5.cell? ⟨i5, 1, none⟩ = some (.int .i64 tz) := by rw [cell_of_row _ _ 1 _ _ _ K5.out]; rfl
      have z2 : X5.cell? ⟨i5, 2, none⟩ = some (.int .i64 o) := by rw [cell_of_row _ _ 2 _ _ _ K5.out]; rfl
      have z3 : X5.cell? ⟨i5, 3, none⟩ = some (.int .i64 lf) := by rw [cell_of_row _ _ 3 _ _ _ K5.out]; rfl
      have z4 : X5.cell? ⟨i5, 4, none⟩ = some (.int .i64 n) := by rw [cell_of_row _ _ 4 _ _ _ K5.out]; rfl
      have z5 : X5.cell? ⟨i5, 5, none⟩ = some (.int .i64 tn) := by rw [cell_of_row _ _ 5 _ _ _ K5.out]; rfl
      have z6 : X5.cell? ⟨i5, 6, none⟩ = some (.slice pa pn pc) := by rw [cell_of_row _ _ 6 _ _ _ K5.out]; rfl
      go_wp2_with fail
      refine (chkR_any fr tz o lf n tn pa pn pc P X5 HPI.out).mono ?_
      rintro r X6 ⟨rfl, b6⟩
      rw [HFC.out]
      replace HA := aside (HA.out.later b6)
      replace HB := aside (HB.out.later b6)
      replace BB := aside (bthen BB.out b6)
      replace HPA := aside (HPA.out.keep (Keeps.of_below b6 (fun _ => False)) (fun k h => h.elim))
      replace K5 := aside (blk_on K5.out b6)
      replace HPB := aside (HPB.out.keep (Keeps.of_below b6 (fun _ => False)) (fun k h => h.elim))
      replace K7 := aside (blk_on K7.out b6)
      clear b6 q1 q2 OW HPI z0 z1 z2 z3 z4 z5 z6
      have hla := HA.out.1
      have hlb := HB.out.1
      have hca := HA.out.2.1
      have hcb := HB.out.2.1
      go_upto_region 13 with fail
      go_cut [93] (fun s wx => s = .bool false ∧ Below X6.heap.size X6 wx)
      case first =>
        clear K5 K7
        by_cases h1 : (la : Int) < (lb : Int)
        · as_aux_lemma =>
            have hnp := not_pre HF.out.1 HG.out.1 HF.out.2.2.1 HG.out.2.2.1 (by omega)
            rw [hla] at hnp
            have h2 : ¬ (lb : Int) < (la : Int) := by omega
            refine wp_region_held_drew (S := fun Y => (convert 30 9 (.slice a la ca)).run Try.prog Y = .ok (.string ⟨La.toArray⟩) Y ∧ (convert 30 9 (.slice b lb cb)).run Try.prog Y = .ok (.string ⟨Lb.toArray⟩) Y ∧ (convert 30 9 (.slice b la cb)).run Try.prog Y = .ok (.string ⟨(Lb.take la).toArray⟩) Y) (by kernel_rfl) ⟨HA.out.reads 1, HB.out.reads 1, (HB.out.pre (by omega)).reads 1⟩ (fun hHeld => ?_)
            refine wpAnyH_take (i := 0) (v := ?_) rfl (by kernel_rfl) (by kernel_rfl) (by kernel_rfl) (fun _ _ _ h => h) (Or.inl ⟨by rfl, ?_⟩) (by assumption) ?_
            rotate_left
            · intro w hSw
              go_simp
              try with_reducible rfl
            simp only [Act.put, List.getElem_toArray, List.getElem_cons_zero, List.setIfInBounds_toArray, List.set_cons_zero, List.set_cons_succ]
            refine wpAnyH_take (i := 1) (v := ?_) rfl (by kernel_rfl) (by kernel_rfl) (by kernel_rfl) (fun _ _ _ h => h) (Or.inl ⟨by rfl, ?_⟩) (by assumption) ?_
            rotate_left
            · intro w hSw
              go_simp
              try with_reducible rfl
            simp only [Act.put, List.getElem_toArray, List.getElem_cons_zero, List.getElem_cons_succ, List.setIfInBounds_toArray, List.set_cons_zero, List.set_cons_succ]
            refine wpAnyH_take (i := 2) (v := ?_) rfl (by kernel_rfl) (by kernel_rfl) (by kernel_rfl) (fun _ _ _ h => h) (Or.inl ⟨by rfl, ?_⟩) (by assumption) ?_
            rotate_left
            · intro w hSw
              go_simp
              try with_reducible rfl
            simp only [Act.put, List.getElem_toArray, List.getElem_cons_zero, List.getElem_cons_succ, List.setIfInBounds_toArray, List.set_cons_zero, List.set_cons_succ]
            refine wpAnyH_take (i := 3) (v := ?_) rfl (by kernel_rfl) (by kernel_rfl) (by kernel_rfl) (fun _ _ _ h => h) (Or.inl ⟨by rfl, ?_⟩) (by assumption) ?_
            rotate_left
            · intro w hSw
              go_simp
              try with_reducible rfl
            simp only [Act.put, List.getElem_toArray, List.getElem_cons_zero, List.getElem_cons_succ, List.setIfInBounds_toArray, List.set_cons_zero, List.set_cons_succ]
            refine wpAnyH_take (i := 4) (v := .bool true) rfl (by kernel_rfl) (by kernel_rfl) (by kernel_rfl) (fun _ _ _ h => h) (Or.inl ⟨by rfl, ?_⟩) (by assumption) ?_
            · intro w hSw
              go_simp
              try omega
            simp only [Act.put, List.getElem_toArray, List.getElem_cons_zero, List.getElem_cons_succ, List.setIfInBounds_toArray, List.set_cons_zero, List.set_cons_succ]
            refine wpAnyH_take (i := 5) (v := ?_) rfl (by kernel_rfl) (by kernel_rfl) (by kernel_rfl) (fun _ _ _ h => h) (Or.inl ⟨by rfl, ?_⟩) (by assumption) ?_
            rotate_left
            · intro w hSw
              go_simp
              try with_reducible rfl
            simp only [Act.put, List.getElem_toArray, List.getElem_cons_zero, List.getElem_cons_succ, List.setIfInBounds_toArray, List.set_cons_zero, List.set_cons_succ]
            refine wpAnyH_take (i := 6) (v := ?_) rfl (by kernel_rfl) (by kernel_rfl) (by kernel_rfl) (fun _ _ _ h => h) (Or.inl ⟨by rfl, ?_⟩) (by assumption) ?_
            rotate_left
            · intro w hSw
              go_simp
              try with_reducible rfl
            simp only [Act.put, List.getElem_toArray, List.getElem_cons_zero, List.getElem_cons_succ, List.setIfInBounds_toArray, List.set_cons_zero, List.set_cons_succ]
            refine wpAnyH_take (i := 7) (v := ?_) rfl (by kernel_rfl) (by kernel_rfl) (by kernel_rfl) (fun _ _ _ h => h) (Or.inl ⟨by rfl, ?_⟩) (by assumption) ?_
            rotate_left
            · intro w hSw
              go_simp
              try with_reducible rfl
            simp only [Act.put, List.getElem_toArray, List.getElem_cons_zero, List.getElem_cons_succ, List.setIfInBounds_toArray, List.set_cons_zero, List.set_cons_succ]
            refine wpAnyH_take (i := 8) (v := ?_) rfl (by kernel_rfl) (by kernel_rfl) (by kernel_rfl) (fun _ _ _ h => h) (Or.inl ⟨by rfl, ?_⟩) (by assumption) ?_
            rotate_left
            · intro w hSw
              go_simp
              try with_reducible rfl
            simp only [Act.put, List.getElem_toArray, List.getElem_cons_zero, List.getElem_cons_succ, List.setIfInBounds_toArray, List.set_cons_zero, List.set_cons_succ]
            refine wpAnyH_take (i := 9) (v := .slice b la cb) rfl (by kernel_rfl) (by kernel_rfl) (by kernel_rfl) (fun _ _ _ h => h) (Or.inl ⟨by rfl, ?_⟩) (by assumption) ?_
            · intro w hSw
              go_simp
              intro h
              exact absurd h (by omega)
            simp only [Act.put, List.getElem_toArray, List.getElem_cons_zero, List.getElem_cons_succ, List.setIfInBounds_toArray, List.set_cons_zero, List.set_cons_succ]
            refine wpAnyH_take (i := 10) (v := .string ⟨(Lb.take la).toArray⟩) rfl (by kernel_rfl) (by kernel_rfl) (by kernel_rfl) (fun _ _ _ h => h) (Or.inl ⟨by rfl, ?_⟩) (by assumption) ?_
            · intro w hSw
              go_simp
              try exact hSw.2.2
            simp only [Act.put, List.getElem_toArray, List.getElem_cons_zero, List.getElem_cons_succ, List.setIfInBounds_toArray, List.set_cons_zero, List.set_cons_succ]
            refine wpAnyH_take (i := 11) (v := ?_) rfl (by kernel_rfl) (by kernel_rfl) (by kernel_rfl) (fun _ _ _ h => h) (Or.inl ⟨by rfl, ?_⟩) (by assumption) ?_
            rotate_left
            · intro w hSw
              go_simp
              try with_reducible rfl
            simp only [Act.put, List.getElem_toArray, List.getElem_cons_zero, List.getElem_cons_succ, List.setIfInBounds_toArray, List.set_cons_zero, List.set_cons_succ]
            refine wpAnyH_take (i := 12) (v := .string ⟨La.toArray⟩) rfl (by kernel_rfl) (by kernel_rfl) (by kernel_rfl) (fun _ _ _ h => h) (Or.inl ⟨by rfl, ?_⟩) (by assumption) ?_
            · intro w hSw
              go_simp
              try exact hSw.1
            simp only [Act.put, List.getElem_toArray, List.getElem_cons_zero, List.getElem_cons_succ, List.setIfInBounds_toArray, List.set_cons_zero, List.set_cons_succ]
            refine wpAnyH_take (i := 13) (v := .bool false) rfl (by kernel_rfl) (by kernel_rfl) (by kernel_rfl) (fun _ _ _ h => h) (Or.inl ⟨by rfl, ?_⟩) (by assumption) ?_
            · intro w hSw
              go_simp
              try exact hnp
            simp only [Act.put, List.getElem_toArray, List.getElem_cons_zero, List.getElem_cons_succ, List.setIfInBounds_toArray, List.set_cons_zero, List.set_cons_succ]
            refine wpAnyH_take (i := 14) (v := ?_) rfl (by kernel_rfl) (by kernel_rfl) (by kernel_rfl) (fun _ _ _ h => h) (Or.inl ⟨by rfl, ?_⟩) (by assumption) ?_
            rotate_left
            · intro w hSw
              go_simp
              try with_reducible rfl
            simp only [Act.put, List.getElem_toArray, List.getElem_cons_zero, List.getElem_cons_succ, List.setIfInBounds_toArray, List.set_cons_zero, List.set_cons_succ]
            refine wpAnyH_take (i := 15) (v := ?_) rfl (by kernel_rfl) (by kernel_rfl) (by kernel_rfl) (fun _ _ _ h => h) (Or.inl ⟨by rfl, ?_⟩) (by assumption) ?_
            rotate_left
            · intro w hSw
              go_simp
              try with_reducible rfl
            simp only [Act.put, List.getElem_toArray, List.getElem_cons_zero, List.getElem_cons_succ, List.setIfInBounds_toArray, List.set_cons_zero, List.set_cons_succ]
            refine wpAnyH_take (i := 16) (v := ?_) rfl (by kernel_rfl) (by kernel_rfl) (by kernel_rfl) (fun _ _ _ h => h) (Or.inl ⟨by rfl, ?_⟩) (by assumption) ?_
            rotate_left
            · intro w hSw
              go_simp
              try with_reducible rfl
            simp only [Act.put, List.getElem_toArray, List.getElem_cons_zero, List.getElem_cons_succ, List.setIfInBounds_toArray, List.set_cons_zero, List.set_cons_succ]
            refine wpAnyH_take (i := 17) (v := ?_) rfl (by kernel_rfl) (by kernel_rfl) (by kernel_rfl) (fun _ _ _ h => h) (Or.inl ⟨by rfl, ?_⟩) (by assumption) ?_
            rotate_left
            · intro w hSw
              go_simp
              try with_reducible rfl
            simp only [Act.put, List.getElem_toArray, List.getElem_cons_zero, List.getElem_cons_succ, List.setIfInBounds_toArray, List.set_cons_zero, List.set_cons_succ]
            refine wpAnyH_take (i := 18) (v := ?_) rfl (by kernel_rfl) (by kernel_rfl) (by kernel_rfl) (fun _ _ _ h => h) (Or.inl ⟨by rfl, ?_⟩) (by assumption) ?_
            rotate_left
            · intro w hSw
              go_simp
              try with_reducible rfl
            simp only [Act.put, List.getElem_toArray, List.getElem_cons_zero, List.getElem_cons_succ, List.setIfInBounds_toArray, List.set_cons_zero, List.set_cons_succ]
            refine wpAnyH_take (i := 19) (v := ?_) rfl (by kernel_rfl) (by kernel_rfl) (by kernel_rfl) (fun _ _ _ h => h) (Or.inl ⟨by rfl, ?_⟩) (by assumption) ?_
            rotate_left
            · intro w hSw
              go_simp
              try with_reducible rfl
            simp only [Act.put, List.getElem_toArray, List.getElem_cons_zero, List.getElem_cons_succ, List.setIfInBounds_toArray, List.set_cons_zero, List.set_cons_succ]
            refine wpAnyH_take (i := 20) (v := .bool false) rfl (by kernel_rfl) (by kernel_rfl) (by kernel_rfl) (fun _ _ _ h => h) (Or.inl ⟨by rfl, ?_⟩) (by assumption) ?_
            · intro w hSw
              go_simp
              try omega
            simp only [Act.put, List.getElem_toArray, List.getElem_cons_zero, List.getElem_cons_succ, List.setIfInBounds_toArray, List.set_cons_zero, List.set_cons_succ]
            refine wpAnyH_take (i := 21) (v := ?_) rfl (by kernel_rfl) (by kernel_rfl) (by kernel_rfl) (fun _ _ _ h => h) (Or.inl ⟨by rfl, ?_⟩) (by assumption) ?_
            rotate_left
            · intro w hSw
              go_simp
              try with_reducible rfl
            simp only [Act.put, List.getElem_toArray, List.getElem_cons_zero, List.getElem_cons_succ, List.setIfInBounds_toArray, List.set_cons_zero, List.set_cons_succ]
            refine wpAnyH_take (i := 22) (v := undef) rfl (by kernel_rfl) (by kernel_rfl) (by kernel_rfl) (fun _ _ _ h => h) (Or.inr ⟨by rfl, rfl⟩) (by assumption) ?_
            simp only [Act.put, List.getElem_toArray, List.getElem_cons_zero, List.getElem_cons_succ, List.setIfInBounds_toArray, List.set_cons_zero, List.set_cons_succ]
            refine wpAnyH_take (i := 23) (v := undef) rfl (by kernel_rfl) (by kernel_rfl) (by kernel_rfl) (fun _ _ _ h => h) (Or.inr ⟨by rfl, rfl⟩) (by assumption) ?_
            simp only [Act.put, List.getElem_toArray, List.getElem_cons_zero, List.getElem_cons_succ, List.setIfInBounds_toArray, List.set_cons_zero, List.set_cons_succ]
            refine wpAnyH_take (i := 24) (v := undef) rfl (by kernel_rfl) (by kernel_rfl) (by kernel_rfl) (fun _ _ _ h => h) (Or.inr ⟨by rfl, rfl⟩) (by assumption) ?_
            simp only [Act.put, List.getElem_toArray, List.getElem_cons_zero, List.getElem_cons_succ, List.setIfInBounds_toArray, List.set_cons_zero, List.set_cons_succ]
            refine wpAnyH_take (i := 25) (v := undef) rfl (by kernel_rfl) (by kernel_rfl) (by kernel_rfl) (fun _ _ _ h => h) (Or.inr ⟨by rfl, rfl⟩) (by assumption) ?_
            simp only [Act.put, List.getElem_toArray, List.getElem_cons_zero, List.getElem_cons_succ, List.setIfInBounds_toArray, List.set_cons_zero, List.set_cons_succ]
            refine wpAnyH_take (i := 26) (v := undef) rfl (by kernel_rfl) (by kernel_rfl) (by kernel_rfl) (fun _ _ _ h => h) (Or.inr ⟨by rfl, rfl⟩) (by assumption) ?_
            simp only [Act.put, List.getElem_toArray, List.getElem_cons_zero, List.getElem_cons_succ, List.setIfInBounds_toArray, List.set_cons_zero, List.set_cons_succ]
            refine wpAnyH_take (i := 27) (v := undef) rfl (by kernel_rfl) (by kernel_rfl) (by kernel_rfl) (fun _ _ _ h => h) (Or.inr ⟨by rfl, rfl⟩) (by assumption) ?_
            simp only [Act.put, List.getElem_toArray, List.getElem_cons_zero, List.getElem_cons_succ, List.setIfInBounds_toArray, List.set_cons_zero, List.set_cons_succ]
            refine wpAnyH_take (i := 28) (v := undef) rfl (by kernel_rfl) (by kernel_rfl) (by kernel_rfl) (fun _ _ _ h => h) (Or.inr ⟨by rfl, rfl⟩) (by assumption) ?_
            simp only [Act.put, List.getElem_toArray, List.getElem_cons_zero, List.getElem_cons_succ, List.setIfInBounds_toArray, List.set_cons_zero, List.set_cons_succ]
            refine wpAnyH_take (i := 29) (v := undef) rfl (by kernel_rfl) (by kernel_rfl) (by kernel_rfl) (fun _ _ _ h => h) (Or.inr ⟨by rfl, rfl⟩) (by assumption) ?_
            simp only [Act.put, List.getElem_toArray, List.getElem_cons_zero, List.getElem_cons_succ, List.setIfInBounds_toArray, List.set_cons_zero, List.set_cons_succ]
            refine wpAnyH_take (i := 30) (v := ?_) rfl (by kernel_rfl) (by kernel_rfl) (by kernel_rfl) (fun _ _ _ h => h) (Or.inl ⟨by rfl, ?_⟩) (by assumption) ?_
            rotate_left
            · intro w hSw
              go_simp
              try with_reducible rfl
            simp only [Act.put, List.getElem_toArray, List.getElem_cons_zero, List.getElem_cons_succ, List.setIfInBounds_toArray, List.set_cons_zero, List.set_cons_succ]
            refine wpAnyH_take (i := 31) (v := ?_) rfl (by kernel_rfl) (by kernel_rfl) (by kernel_rfl) (fun _ _ _ h => h) (Or.inl ⟨by rfl, ?_⟩) (by assumption) ?_
            rotate_left
            · intro w hSw
              go_simp
              try with_reducible rfl
            simp only [Act.put, List.getElem_toArray, List.getElem_cons_zero, List.getElem_cons_succ, List.setIfInBounds_toArray, List.set_cons_zero, List.set_cons_succ]
            refine wpAnyH_done (by kernel_rfl) ?_ _
            go_wp2
            go_meet
            exact ⟨rfl, (Below.refl _ X6).drew⟩
        · by_cases h2 : (lb : Int) < (la : Int)
          · as_aux_lemma =>
              have hnp := not_pre HG.out.1 HF.out.1 HG.out.2.2.1 HF.out.2.2.1 (by omega)
              rw [hlb] at hnp
              refine wp_region_held_drew (S := fun Y => (convert 30 9 (.slice a la ca)).run Try.prog Y = .ok (.string ⟨La.toArray⟩) Y ∧ (convert 30 9 (.slice b lb cb)).run Try.prog Y = .ok (.string ⟨Lb.toArray⟩) Y ∧ (convert 30 9 (.slice a lb ca)).run Try.prog Y = .ok (.string ⟨(La.take lb).toArray⟩) Y) (by kernel_rfl) ⟨HA.out.reads 1, HB.out.reads 1, (HA.out.pre (by omega)).reads 1⟩ (fun hHeld => ?_)
              refine wpAnyH_take (i := 0) (v := ?_) rfl (by kernel_rfl) (by kernel_rfl) (by kernel_rfl) (fun _ _ _ h => h) (Or.inl ⟨by rfl, ?_⟩) (by assumption) ?_
              rotate_left
              · intro w hSw
                go_simp
                try with_reducible rfl
              simp only [Act.put, List.getElem_toArray, List.getElem_cons_zero, List.setIfInBounds_toArray, List.set_cons_zero, List.set_cons_succ]
              refine wpAnyH_take (i := 1) (v := ?_) rfl (by kernel_rfl) (by kernel_rfl) (by kernel_rfl) (fun _ _ _ h => h) (Or.inl ⟨by rfl, ?_⟩) (by assumption) ?_
              rotate_left
              · intro w hSw
                go_simp
                try with_reducible rfl
              simp only [Act.put, List.getElem_toArray, List.getElem_cons_zero, List.getElem_cons_succ, List.setIfInBounds_toArray, List.set_cons_zero, List.set_cons_succ]
              refine wpAnyH_take (i := 2) (v := ?_) rfl (by kernel_rfl) (by kernel_rfl) (by kernel_rfl) (fun _ _ _ h => h) (Or.inl ⟨by rfl, ?_⟩) (by assumption) ?_
              rotate_left
              · intro w hSw
                go_simp
                try with_reducible rfl
              simp only [Act.put, List.getElem_toArray, List.getElem_cons_zero, List.getElem_cons_succ, List.setIfInBounds_toArray, List.set_cons_zero, List.set_cons_succ]
              refine wpAnyH_take (i := 3) (v := ?_) rfl (by kernel_rfl) (by kernel_rfl) (by kernel_rfl) (fun _ _ _ h => h) (Or.inl ⟨by rfl, ?_⟩) (by assumption) ?_
              rotate_left
              · intro w hSw
                go_simp
                try with_reducible rfl
              simp only [Act.put, List.getElem_toArray, List.getElem_cons_zero, List.getElem_cons_succ, List.setIfInBounds_toArray, List.set_cons_zero, List.set_cons_succ]
              refine wpAnyH_take (i := 4) (v := .bool false) rfl (by kernel_rfl) (by kernel_rfl) (by kernel_rfl) (fun _ _ _ h => h) (Or.inl ⟨by rfl, ?_⟩) (by assumption) ?_
              · intro w hSw
                go_simp
                try omega
              simp only [Act.put, List.getElem_toArray, List.getElem_cons_zero, List.getElem_cons_succ, List.setIfInBounds_toArray, List.set_cons_zero, List.set_cons_succ]
              refine wpAnyH_take (i := 5) (v := ?_) rfl (by kernel_rfl) (by kernel_rfl) (by kernel_rfl) (fun _ _ _ h => h) (Or.inl ⟨by rfl, ?_⟩) (by assumption) ?_
              rotate_left
              · intro w hSw
                go_simp
                try with_reducible rfl
              simp only [Act.put, List.getElem_toArray, List.getElem_cons_zero, List.getElem_cons_succ, List.setIfInBounds_toArray, List.set_cons_zero, List.set_cons_succ]
              refine wpAnyH_take (i := 6) (v := undef) rfl (by kernel_rfl) (by kernel_rfl) (by kernel_rfl) (fun _ _ _ h => h) (Or.inr ⟨by rfl, rfl⟩) (by assumption) ?_
              simp only [Act.put, List.getElem_toArray, List.getElem_cons_zero, List.getElem_cons_succ, List.setIfInBounds_toArray, List.set_cons_zero, List.set_cons_succ]
              refine wpAnyH_take (i := 7) (v := undef) rfl (by kernel_rfl) (by kernel_rfl) (by kernel_rfl) (fun _ _ _ h => h) (Or.inr ⟨by rfl, rfl⟩) (by assumption) ?_
              simp only [Act.put, List.getElem_toArray, List.getElem_cons_zero, List.getElem_cons_succ, List.setIfInBounds_toArray, List.set_cons_zero, List.set_cons_succ]
              refine wpAnyH_take (i := 8) (v := undef) rfl (by kernel_rfl) (by kernel_rfl) (by kernel_rfl) (fun _ _ _ h => h) (Or.inr ⟨by rfl, rfl⟩) (by assumption) ?_
              simp only [Act.put, List.getElem_toArray, List.getElem_cons_zero, List.getElem_cons_succ, List.setIfInBounds_toArray, List.set_cons_zero, List.set_cons_succ]
              refine wpAnyH_take (i := 9) (v := undef) rfl (by kernel_rfl) (by kernel_rfl) (by kernel_rfl) (fun _ _ _ h => h) (Or.inr ⟨by rfl, rfl⟩) (by assumption) ?_
              simp only [Act.put, List.getElem_toArray, List.getElem_cons_zero, List.getElem_cons_succ, List.setIfInBounds_toArray, List.set_cons_zero, List.set_cons_succ]
              refine wpAnyH_take (i := 10) (v := undef) rfl (by kernel_rfl) (by kernel_rfl) (by kernel_rfl) (fun _ _ _ h => h) (Or.inr ⟨by rfl, rfl⟩) (by assumption) ?_
              simp only [Act.put, List.getElem_toArray, List.getElem_cons_zero, List.getElem_cons_succ, List.setIfInBounds_toArray, List.set_cons_zero, List.set_cons_succ]
              refine wpAnyH_take (i := 11) (v := undef) rfl (by kernel_rfl) (by kernel_rfl) (by kernel_rfl) (fun _ _ _ h => h) (Or.inr ⟨by rfl, rfl⟩) (by assumption) ?_
              simp only [Act.put, List.getElem_toArray, List.getElem_cons_zero, List.getElem_cons_succ, List.setIfInBounds_toArray, List.set_cons_zero, List.set_cons_succ]
              refine wpAnyH_take (i := 12) (v := undef) rfl (by kernel_rfl) (by kernel_rfl) (by kernel_rfl) (fun _ _ _ h => h) (Or.inr ⟨by rfl, rfl⟩) (by assumption) ?_
              simp only [Act.put, List.getElem_toArray, List.getElem_cons_zero, List.getElem_cons_succ, List.setIfInBounds_toArray, List.set_cons_zero, List.set_cons_succ]
              refine wpAnyH_take (i := 13) (v := undef) rfl (by kernel_rfl) (by kernel_rfl) (by kernel_rfl) (fun _ _ _ h => h) (Or.inr ⟨by rfl, rfl⟩) (by assumption) ?_
              simp only [Act.put, List.getElem_toArray, List.getElem_cons_zero, List.getElem_cons_succ, List.setIfInBounds_toArray, List.set_cons_zero, List.set_cons_succ]
              refine wpAnyH_take (i := 14) (v := ?_) rfl (by kernel_rfl) (by kernel_rfl) (by kernel_rfl) (fun _ _ _ h => h) (Or.inl ⟨by rfl, ?_⟩) (by assumption) ?_
              rotate_left
              · intro w hSw
                go_simp
                try with_reducible rfl
              simp only [Act.put, List.getElem_toArray, List.getElem_cons_zero, List.getElem_cons_succ, List.setIfInBounds_toArray, List.set_cons_zero, List.set_cons_succ]
              refine wpAnyH_take (i := 15) (v := ?_) rfl (by kernel_rfl) (by kernel_rfl) (by kernel_rfl) (fun _ _ _ h => h) (Or.inl ⟨by rfl, ?_⟩) (by assumption) ?_
              rotate_left
              · intro w hSw
                go_simp
                try with_reducible rfl
              simp only [Act.put, List.getElem_toArray, List.getElem_cons_zero, List.getElem_cons_succ, List.setIfInBounds_toArray, List.set_cons_zero, List.set_cons_succ]
              refine wpAnyH_take (i := 16) (v := ?_) rfl (by kernel_rfl) (by kernel_rfl) (by kernel_rfl) (fun _ _ _ h => h) (Or.inl ⟨by rfl, ?_⟩) (by assumption) ?_
              rotate_left
              · intro w hSw
                go_simp
                try with_reducible rfl
              simp only [Act.put, List.getElem_toArray, List.getElem_cons_zero, List.getElem_cons_succ, List.setIfInBounds_toArray, List.set_cons_zero, List.set_cons_succ]
              refine wpAnyH_take (i := 17) (v := ?_) rfl (by kernel_rfl) (by kernel_rfl) (by kernel_rfl) (fun _ _ _ h => h) (Or.inl ⟨by rfl, ?_⟩) (by assumption) ?_
              rotate_left
              · intro w hSw
                go_simp
                try with_reducible rfl
              simp only [Act.put, List.getElem_toArray, List.getElem_cons_zero, List.getElem_cons_succ, List.setIfInBounds_toArray, List.set_cons_zero, List.set_cons_succ]
              refine wpAnyH_take (i := 18) (v := ?_) rfl (by kernel_rfl) (by kernel_rfl) (by kernel_rfl) (fun _ _ _ h => h) (Or.inl ⟨by rfl, ?_⟩) (by assumption) ?_
              rotate_left
              · intro w hSw
                go_simp
                try with_reducible rfl
              simp only [Act.put, List.getElem_toArray, List.getElem_cons_zero, List.getElem_cons_succ, List.setIfInBounds_toArray, List.set_cons_zero, List.set_cons_succ]
              refine wpAnyH_take (i := 19) (v := ?_) rfl (by kernel_rfl) (by kernel_rfl) (by kernel_rfl) (fun _ _ _ h => h) (Or.inl ⟨by rfl, ?_⟩) (by assumption) ?_
              rotate_left
              · intro w hSw
                go_simp
                try with_reducible rfl
              simp only [Act.put, List.getElem_toArray, List.getElem_cons_zero, List.getElem_cons_succ, List.setIfInBounds_toArray, List.set_cons_zero, List.set_cons_succ]
              refine wpAnyH_take (i := 20) (v := .bool true) rfl (by kernel_rfl) (by kernel_rfl) (by kernel_rfl) (fun _ _ _ h => h) (Or.inl ⟨by rfl, ?_⟩) (by assumption) ?_
              · intro w hSw
                go_simp
                try omega
              simp only [Act.put, List.getElem_toArray, List.getElem_cons_zero, List.getElem_cons_succ, List.setIfInBounds_toArray, List.set_cons_zero, List.set_cons_succ]
              refine wpAnyH_take (i := 21) (v := ?_) rfl (by kernel_rfl) (by kernel_rfl) (by kernel_rfl) (fun _ _ _ h => h) (Or.inl ⟨by rfl, ?_⟩) (by assumption) ?_
              rotate_left
              · intro w hSw
                go_simp
                try with_reducible rfl
              simp only [Act.put, List.getElem_toArray, List.getElem_cons_zero, List.getElem_cons_succ, List.setIfInBounds_toArray, List.set_cons_zero, List.set_cons_succ]
              refine wpAnyH_take (i := 22) (v := ?_) rfl (by kernel_rfl) (by kernel_rfl) (by kernel_rfl) (fun _ _ _ h => h) (Or.inl ⟨by rfl, ?_⟩) (by assumption) ?_
              rotate_left
              · intro w hSw
                go_simp
                try with_reducible rfl
              simp only [Act.put, List.getElem_toArray, List.getElem_cons_zero, List.getElem_cons_succ, List.setIfInBounds_toArray, List.set_cons_zero, List.set_cons_succ]
              refine wpAnyH_take (i := 23) (v := ?_) rfl (by kernel_rfl) (by kernel_rfl) (by kernel_rfl) (fun _ _ _ h => h) (Or.inl ⟨by rfl, ?_⟩) (by assumption) ?_
              rotate_left
              · intro w hSw
                go_simp
                try with_reducible rfl
              simp only [Act.put, List.getElem_toArray, List.getElem_cons_zero, List.getElem_cons_succ, List.setIfInBounds_toArray, List.set_cons_zero, List.set_cons_succ]
              refine wpAnyH_take (i := 24) (v := ?_) rfl (by kernel_rfl) (by kernel_rfl) (by kernel_rfl) (fun _ _ _ h => h) (Or.inl ⟨by rfl, ?_⟩) (by assumption) ?_
              rotate_left
              · intro w hSw
                go_simp
                try with_reducible rfl
              simp only [Act.put, List.getElem_toArray, List.getElem_cons_zero, List.getElem_cons_succ, List.setIfInBounds_toArray, List.set_cons_zero, List.set_cons_succ]
              refine wpAnyH_take (i := 25) (v := .slice a lb ca) rfl (by kernel_rfl) (by kernel_rfl) (by kernel_rfl) (fun _ _ _ h => h) (Or.inl ⟨by rfl, ?_⟩) (by assumption) ?_
              · intro w hSw
                go_simp
                intro h
                exact absurd h (by omega)
              simp only [Act.put, List.getElem_toArray, List.getElem_cons_zero, List.getElem_cons_succ, List.setIfInBounds_toArray, List.set_cons_zero, List.set_cons_succ]
              refine wpAnyH_take (i := 26) (v := .string ⟨(La.take lb).toArray⟩) rfl (by kernel_rfl) (by kernel_rfl) (by kernel_rfl) (fun _ _ _ h => h) (Or.inl ⟨by rfl, ?_⟩) (by assumption) ?_
              · intro w hSw
                go_simp
                try exact hSw.2.2
              simp only [Act.put, List.getElem_toArray, List.getElem_cons_zero, List.getElem_cons_succ, List.setIfInBounds_toArray, List.set_cons_zero, List.set_cons_succ]
              refine wpAnyH_take (i := 27) (v := ?_) rfl (by kernel_rfl) (by kernel_rfl) (by kernel_rfl) (fun _ _ _ h => h) (Or.inl ⟨by rfl, ?_⟩) (by assumption) ?_
              rotate_left
              · intro w hSw
                go_simp
                try with_reducible rfl
              simp only [Act.put, List.getElem_toArray, List.getElem_cons_zero, List.getElem_cons_succ, List.setIfInBounds_toArray, List.set_cons_zero, List.set_cons_succ]
              refine wpAnyH_take (i := 28) (v := .string ⟨Lb.toArray⟩) rfl (by kernel_rfl) (by kernel_rfl) (by kernel_rfl) (fun _ _ _ h => h) (Or.inl ⟨by rfl, ?_⟩) (by assumption) ?_
              · intro w hSw
                go_simp
                try exact hSw.2.1
              simp only [Act.put, List.getElem_toArray, List.getElem_cons_zero, List.getElem_cons_succ, List.setIfInBounds_toArray, List.set_cons_zero, List.set_cons_succ]
              refine wpAnyH_take (i := 29) (v := .bool false) rfl (by kernel_rfl) (by kernel_rfl) (by kernel_rfl) (fun _ _ _ h => h) (Or.inl ⟨by rfl, ?_⟩) (by assumption) ?_
              · intro w hSw
                go_simp
                try exact hnp
              simp only [Act.put, List.getElem_toArray, List.getElem_cons_zero, List.getElem_cons_succ, List.setIfInBounds_toArray, List.set_cons_zero, List.set_cons_succ]
              refine wpAnyH_take (i := 30) (v := ?_) rfl (by kernel_rfl) (by kernel_rfl) (by kernel_rfl) (fun _ _ _ h => h) (Or.inl ⟨by rfl, ?_⟩) (by assumption) ?_
              rotate_left
              · intro w hSw
                go_simp
                try with_reducible rfl
              simp only [Act.put, List.getElem_toArray, List.getElem_cons_zero, List.getElem_cons_succ, List.setIfInBounds_toArray, List.set_cons_zero, List.set_cons_succ]
              refine wpAnyH_take (i := 31) (v := ?_) rfl (by kernel_rfl) (by kernel_rfl) (by kernel_rfl) (fun _ _ _ h => h) (Or.inl ⟨by rfl, ?_⟩) (by assumption) ?_
              rotate_left
              · intro w hSw
                go_simp
                try with_reducible rfl
              simp only [Act.put, List.getElem_toArray, List.getElem_cons_zero, List.getElem_cons_succ, List.setIfInBounds_toArray, List.set_cons_zero, List.set_cons_succ]
              refine wpAnyH_done (by kernel_rfl) ?_ _
              go_wp2
              go_meet
              exact ⟨rfl, (Below.refl _ X6).drew⟩
          · as_aux_lemma =>
              refine wp_region_held_drew (S := fun Y => (convert 30 9 (.slice a la ca)).run Try.prog Y = .ok (.string ⟨La.toArray⟩) Y ∧ (convert 30 9 (.slice b lb cb)).run Try.prog Y = .ok (.string ⟨Lb.toArray⟩) Y) (by kernel_rfl) ⟨HA.out.reads 1, HB.out.reads 1⟩ (fun hHeld => ?_)
              refine wpAnyH_take (i := 0) (v := ?_) rfl (by kernel_rfl) (by kernel_rfl) (by kernel_rfl) (fun _ _ _ h => h) (Or.inl ⟨by rfl, ?_⟩) (by assumption) ?_
              rotate_left
              · intro w hSw
                go_simp
                try with_reducible rfl
              simp only [Act.put, List.getElem_toArray, List.getElem_cons_zero, List.setIfInBounds_toArray, List.set_cons_zero, List.set_cons_succ]
              refine wpAnyH_take (i := 1) (v := ?_) rfl (by kernel_rfl) (by kernel_rfl) (by kernel_rfl) (fun _ _ _ h => h) (Or.inl ⟨by rfl, ?_⟩) (by assumption) ?_
              rotate_left
              · intro w hSw
                go_simp
                try with_reducible rfl
              simp only [Act.put, List.getElem_toArray, List.getElem_cons_zero, List.getElem_cons_succ, List.setIfInBounds_toArray, List.set_cons_zero, List.set_cons_succ]
              refine wpAnyH_take (i := 2) (v := ?_) rfl (by kernel_rfl) (by kernel_rfl) (by kernel_rfl) (fun _ _ _ h => h) (Or.inl ⟨by rfl, ?_⟩) (by assumption) ?_
              rotate_left
              · intro w hSw
                go_simp
                try with_reducible rfl
              simp only [Act.put, List.getElem_toArray, List.getElem_cons_zero, List.getElem_cons_succ, List.setIfInBounds_toArray, List.set_cons_zero, List.set_cons_succ]
              refine wpAnyH_take (i := 3) (v := ?_) rfl (by kernel_rfl) (by kernel_rfl) (by kernel_rfl) (fun _ _ _ h => h) (Or.inl ⟨by rfl, ?_⟩) (by assumption) ?_
              rotate_left
              · intro w hSw
                go_simp
                try with_reducible rfl
              simp only [Act.put, List.getElem_toArray, List.getElem_cons_zero, List.getElem_cons_succ, List.setIfInBounds_toArray, List.set_cons_zero, List.set_cons_succ]
              refine wpAnyH_take (i := 4) (v := .bool false) rfl (by kernel_rfl) (by kernel_rfl) (by kernel_rfl) (fun _ _ _ h => h) (Or.inl ⟨by rfl, ?_⟩) (by assumption) ?_
              · intro w hSw
                go_simp
                try omega
              simp only [Act.put, List.getElem_toArray, List.getElem_cons_zero, List.getElem_cons_succ, List.setIfInBounds_toArray, List.set_cons_zero, List.set_cons_succ]
              refine wpAnyH_take (i := 5) (v := ?_) rfl (by kernel_rfl) (by kernel_rfl) (by kernel_rfl) (fun _ _ _ h => h) (Or.inl ⟨by rfl, ?_⟩) (by assumption) ?_
              rotate_left
              · intro w hSw
                go_simp
                try with_reducible rfl
              simp only [Act.put, List.getElem_toArray, List.getElem_cons_zero, List.getElem_cons_succ, List.setIfInBounds_toArray, List.set_cons_zero, List.set_cons_succ]
              refine wpAnyH_take (i := 6) (v := undef) rfl (by kernel_rfl) (by kernel_rfl) (by kernel_rfl) (fun _ _ _ h => h) (Or.inr ⟨by rfl, rfl⟩) (by assumption) ?_
              simp only [Act.put, List.getElem_toArray, List.getElem_cons_zero, List.getElem_cons_succ, List.setIfInBounds_toArray, List.set_cons_zero, List.set_cons_succ]
              refine wpAnyH_take (i := 7) (v := undef) rfl (by kernel_rfl) (by kernel_rfl) (by kernel_rfl) (fun _ _ _ h => h) (Or.inr ⟨by rfl, rfl⟩) (by assumption) ?_
              simp only [Act.put, List.getElem_toArray, List.getElem_cons_zero, List.getElem_cons_succ, List.setIfInBounds_toArray, List.set_cons_zero, List.set_cons_succ]
              refine wpAnyH_take (i := 8) (v := undef) rfl (by kernel_rfl) (by kernel_rfl) (by kernel_rfl) (fun _ _ _ h => h) (Or.inr ⟨by rfl, rfl⟩) (by assumption) ?_
              simp only [Act.put, List.getElem_toArray, List.getElem_cons_zero, List.getElem_cons_succ, List.setIfInBounds_toArray, List.set_cons_zero, List.set_cons_succ]
              refine wpAnyH_take (i := 9) (v := undef) rfl (by kernel_rfl) (by kernel_rfl) (by kernel_rfl) (fun _ _ _ h => h) (Or.inr ⟨by rfl, rfl⟩) (by assumption) ?_
              simp only [Act.put, List.getElem_toArray, List.getElem_cons_zero, List.getElem_cons_succ, List.setIfInBounds_toArray, List.set_cons_zero, List.set_cons_succ]
              refine wpAnyH_take (i := 10) (v := undef) rfl (by kernel_rfl) (by kernel_rfl) (by kernel_rfl) (fun _ _ _ h => h) (Or.inr ⟨by rfl, rfl⟩) (by assumption) ?_
              simp only [Act.put, List.getElem_toArray, List.getElem_cons_zero, List.getElem_cons_succ, List.setIfInBounds_toArray, List.set_cons_zero, List.set_cons_succ]
              refine wpAnyH_take (i := 11) (v := undef) rfl (by kernel_rfl) (by kernel_rfl) (by kernel_rfl) (fun _ _ _ h => h) (Or.inr ⟨by rfl, rfl⟩) (by assumption) ?_
              simp only [Act.put, List.getElem_toArray, List.getElem_cons_zero, List.getElem_cons_succ, List.setIfInBounds_toArray, List.set_cons_zero, List.set_cons_succ]
              refine wpAnyH_take (i := 12) (v := undef) rfl (by kernel_rfl) (by kernel_rfl) (by kernel_rfl) (fun _ _ _ h => h) (Or.inr ⟨by rfl, rfl⟩) (by assumption) ?_
              simp only [Act.put, List.getElem_toArray, List.getElem_cons_zero, List.getElem_cons_succ, List.setIfInBounds_toArray, List.set_cons_zero, List.set_cons_succ]
              refine wpAnyH_take (i := 13) (v := undef) rfl (by kernel_rfl) (by kernel_rfl) (by kernel_rfl) (fun _ _ _ h => h) (Or.inr ⟨by rfl, rfl⟩) (by assumption) ?_
              simp only [Act.put, List.getElem_toArray, List.getElem_cons_zero, List.getElem_cons_succ, List.setIfInBounds_toArray, List.set_cons_zero, List.set_cons_succ]
              refine wpAnyH_take (i := 14) (v := ?_) rfl (by kernel_rfl) (by kernel_rfl) (by kernel_rfl) (fun _ _ _ h => h) (Or.inl ⟨by rfl, ?_⟩) (by assumption) ?_
              rotate_left
              · intro w hSw
                go_simp
                try with_reducible rfl
              simp only [Act.put, List.getElem_toArray, List.getElem_cons_zero, List.getElem_cons_succ, List.setIfInBounds_toArray, List.set_cons_zero, List.set_cons_succ]
              refine wpAnyH_take (i := 15) (v := ?_) rfl (by kernel_rfl) (by kernel_rfl) (by kernel_rfl) (fun _ _ _ h => h) (Or.inl ⟨by rfl, ?_⟩) (by assumption) ?_
              rotate_left
              · intro w hSw
                go_simp
                try with_reducible rfl
              simp only [Act.put, List.getElem_toArray, List.getElem_cons_zero, List.getElem_cons_succ, List.setIfInBounds_toArray, List.set_cons_zero, List.set_cons_succ]
              refine wpAnyH_take (i := 16) (v := ?_) rfl (by kernel_rfl) (by kernel_rfl) (by kernel_rfl) (fun _ _ _ h => h) (Or.inl ⟨by rfl, ?_⟩) (by assumption) ?_
              rotate_left
              · intro w hSw
                go_simp
                try with_reducible rfl
              simp only [Act.put, List.getElem_toArray, List.getElem_cons_zero, List.getElem_cons_succ, List.setIfInBounds_toArray, List.set_cons_zero, List.set_cons_succ]
              refine wpAnyH_take (i := 17) (v := ?_) rfl (by kernel_rfl) (by kernel_rfl) (by kernel_rfl) (fun _ _ _ h => h) (Or.inl ⟨by rfl, ?_⟩) (by assumption) ?_
              rotate_left
              · intro w hSw
                go_simp
                try with_reducible rfl
              simp only [Act.put, List.getElem_toArray, List.getElem_cons_zero, List.getElem_cons_succ, List.setIfInBounds_toArray, List.set_cons_zero, List.set_cons_succ]
              refine wpAnyH_take (i := 18) (v := ?_) rfl (by kernel_rfl) (by kernel_rfl) (by kernel_rfl) (fun _ _ _ h => h) (Or.inl ⟨by rfl, ?_⟩) (by assumption) ?_
              rotate_left
              · intro w hSw
                go_simp
                try with_reducible rfl
              simp only [Act.put, List.getElem_toArray, List.getElem_cons_zero, List.getElem_cons_succ, List.setIfInBounds_toArray, List.set_cons_zero, List.set_cons_succ]
              refine wpAnyH_take (i := 19) (v := ?_) rfl (by kernel_rfl) (by kernel_rfl) (by kernel_rfl) (fun _ _ _ h => h) (Or.inl ⟨by rfl, ?_⟩) (by assumption) ?_
              rotate_left
              · intro w hSw
                go_simp
                try with_reducible rfl
              simp only [Act.put, List.getElem_toArray, List.getElem_cons_zero, List.getElem_cons_succ, List.setIfInBounds_toArray, List.set_cons_zero, List.set_cons_succ]
              refine wpAnyH_take (i := 20) (v := .bool false) rfl (by kernel_rfl) (by kernel_rfl) (by kernel_rfl) (fun _ _ _ h => h) (Or.inl ⟨by rfl, ?_⟩) (by assumption) ?_
              · intro w hSw
                go_simp
                try omega
              simp only [Act.put, List.getElem_toArray, List.getElem_cons_zero, List.getElem_cons_succ, List.setIfInBounds_toArray, List.set_cons_zero, List.set_cons_succ]
              refine wpAnyH_take (i := 21) (v := ?_) rfl (by kernel_rfl) (by kernel_rfl) (by kernel_rfl) (fun _ _ _ h => h) (Or.inl ⟨by rfl, ?_⟩) (by assumption) ?_
              rotate_left
              · intro w hSw
                go_simp
                try with_reducible rfl
              simp only [Act.put, List.getElem_toArray, List.getElem_cons_zero, List.getElem_cons_succ, List.setIfInBounds_toArray, List.set_cons_zero, List.set_cons_succ]
              refine wpAnyH_take (i := 22) (v := undef) rfl (by kernel_rfl) (by kernel_rfl) (by kernel_rfl) (fun _ _ _ h => h) (Or.inr ⟨by rfl, rfl⟩) (by assumption) ?_
              simp only [Act.put, List.getElem_toArray, List.getElem_cons_zero, List.getElem_cons_succ, List.setIfInBounds_toArray, List.set_cons_zero, List.set_cons_succ]
              refine wpAnyH_take (i := 23) (v := undef) rfl (by kernel_rfl) (by kernel_rfl) (by kernel_rfl) (fun _ _ _ h => h) (Or.inr ⟨by rfl, rfl⟩) (by assumption) ?_
              simp only [Act.put, List.getElem_toArray, List.getElem_cons_zero, List.getElem_cons_succ, List.setIfInBounds_toArray, List.set_cons_zero, List.set_cons_succ]
              refine wpAnyH_take (i := 24) (v := undef) rfl (by kernel_rfl) (by kernel_rfl) (by kernel_rfl) (fun _ _ _ h => h) (Or.inr ⟨by rfl, rfl⟩) (by assumption) ?_
              simp only [Act.put, List.getElem_toArray, List.getElem_cons_zero, List.getElem_cons_succ, List.setIfInBounds_toArray, List.set_cons_zero, List.set_cons_succ]
              refine wpAnyH_take (i := 25) (v := undef) rfl (by kernel_rfl) (by kernel_rfl) (by kernel_rfl) (fun _ _ _ h => h) (Or.inr ⟨by rfl, rfl⟩) (by assumption) ?_
              simp only [Act.put, List.getElem_toArray, List.getElem_cons_zero, List.getElem_cons_succ, List.setIfInBounds_toArray, List.set_cons_zero, List.set_cons_succ]
              refine wpAnyH_take (i := 26) (v := undef) rfl (by kernel_rfl) (by kernel_rfl) (by kernel_rfl) (fun _ _ _ h => h) (Or.inr ⟨by rfl, rfl⟩) (by assumption) ?_
              simp only [Act.put, List.getElem_toArray, List.getElem_cons_zero, List.getElem_cons_succ, List.setIfInBounds_toArray, List.set_cons_zero, List.set_cons_succ]
              refine wpAnyH_take (i := 27) (v := undef) rfl (by kernel_rfl) (by kernel_rfl) (by kernel_rfl) (fun _ _ _ h => h) (Or.inr ⟨by rfl, rfl⟩) (by assumption) ?_
              simp only [Act.put, List.getElem_toArray, List.getElem_cons_zero, List.getElem_cons_succ, List.setIfInBounds_toArray, List.set_cons_zero, List.set_cons_succ]
              refine wpAnyH_take (i := 28) (v := undef) rfl (by kernel_rfl) (by kernel_rfl) (by kernel_rfl) (fun _ _ _ h => h) (Or.inr ⟨by rfl, rfl⟩) (by assumption) ?_
              simp only [Act.put, List.getElem_toArray, List.getElem_cons_zero, List.getElem_cons_succ, List.setIfInBounds_toArray, List.set_cons_zero, List.set_cons_succ]
              refine wpAnyH_take (i := 29) (v := undef) rfl (by kernel_rfl) (by kernel_rfl) (by kernel_rfl) (fun _ _ _ h => h) (Or.inr ⟨by rfl, rfl⟩) (by assumption) ?_
              simp only [Act.put, List.getElem_toArray, List.getElem_cons_zero, List.getElem_cons_succ, List.setIfInBounds_toArray, List.set_cons_zero, List.set_cons_succ]
              refine wpAnyH_take (i := 30) (v := ?_) rfl (by kernel_rfl) (by kernel_rfl) (by kernel_rfl) (fun _ _ _ h => h) (Or.inl ⟨by rfl, ?_⟩) (by assumption) ?_
              rotate_left
              · intro w hSw
                go_simp
                try with_reducible rfl
              simp only [Act.put, List.getElem_toArray, List.getElem_cons_zero, List.getElem_cons_succ, List.setIfInBounds_toArray, List.set_cons_zero, List.set_cons_succ]
              refine wpAnyH_take (i := 31) (v := ?_) rfl (by kernel_rfl) (by kernel_rfl) (by kernel_rfl) (fun _ _ _ h => h) (Or.inl ⟨by rfl, ?_⟩) (by assumption) ?_
              rotate_left
              · intro w hSw
                go_simp
                try with_reducible rfl
              simp only [Act.put, List.getElem_toArray, List.getElem_cons_zero, List.getElem_cons_succ, List.setIfInBounds_toArray, List.set_cons_zero, List.set_cons_succ]
              refine wpAnyH_done (by kernel_rfl) ?_ _
              go_wp2
              go_meet
              exact ⟨rfl, (Below.refl _ X6).drew⟩
      case rest =>
        obtain ⟨rfl, b7⟩ := hcut
        replace HA := aside (HA.out.later b7)
        replace HB := aside (HB.out.later b7)
        replace BB := aside (bthen BB.out b7)
        replace HPA := aside (HPA.out.keep (Keeps.of_below b7 (fun _ => False)) (fun k h => h.elim))
        replace HPB := aside (HPB.out.keep (Keeps.of_below b7 (fun _ => False)) (fun k h => h.elim))
        replace K5 := aside (blk_on K5.out b7)
        replace K7 := aside (blk_on K7.out b7)
        clear b7
        generalize wc = X7 at *
        have HPI := aside (HPA.out.parts (fun v hv => (HF.out.1.ps v hv).keys))
        have HQI := aside (HPB.out.parts (fun v hv => (HG.out.1.ps v hv).keys))
        go_upto_region 15 with fail
        by_cases hL : La = Lb
        · as_aux_lemma =>
            subst hL
            have hFS : FrSame fr tz o lf n tn fr2 tz2 o2 lf2 n2 tn2 P pn Q pn2 := by
              have h1 := HD.out.symm.trans HD2.out
              simp only [Option.some.injEq, FV.mk.injEq] at h1
              obtain ⟨rfl, rfl, rfl, rfl, rfl, rfl, rfl⟩ := h1
              exact ⟨⟨rfl, rfl, rfl, rfl, rfl, rfl⟩, rd_same HPA.out HPB.out⟩
            have CC := aside (fun Y (bb : Below X7.heap.size X7 Y) => (same_any fr tz o lf n tn fr2 tz2 o2 lf2 n2 tn2 pa pn pc P pa2 pn2 pc2 Q Y (HPI.out.keep bb) (HQI.out.keep bb)).mono (fun e w' h => (show e = .returned (.bool true) ∧ Below Y.heap.size Y w' from by
              obtain ⟨⟨-, rfl⟩ | ⟨h1, -⟩, h2⟩ := h
              · exact ⟨rfl, h2⟩
              · exact absurd hFS h1)))
            clear hFS
            have SS := aside (fun Y (bb : Below X7.heap.size X7 Y) => (show Below X7.heap.size X7 Y ∧ (Y.cell? ⟨i5, 0, none⟩ = some (.int .i64 fr) ∧ Y.cell? ⟨i5, 1, none⟩ = some (.int .i64 tz) ∧ Y.cell? ⟨i5, 2, none⟩ = some (.int .i64 o) ∧ Y.cell? ⟨i5, 3, none⟩ = some (.int .i64 lf) ∧ Y.cell? ⟨i5, 4, none⟩ = some (.int .i64 n) ∧ Y.cell? ⟨i5, 5, none⟩ = some (.int .i64 tn) ∧ Y.cell? ⟨i5, 6, none⟩ = some (.slice pa pn pc)) ∧ (Y.cell? ⟨i7, 0, none⟩ = some (.int .i64 fr2) ∧ Y.cell? ⟨i7, 1, none⟩ = some (.int .i64 tz2) ∧ Y.cell? ⟨i7, 2, none⟩ = some (.int .i64 o2) ∧ Y.cell? ⟨i7, 3, none⟩ = some (.int .i64 lf2) ∧ Y.cell? ⟨i7, 4, none⟩ = some (.int .i64 n2) ∧ Y.cell? ⟨i7, 5, none⟩ = some (.int .i64 tn2) ∧ Y.cell? ⟨i7, 6, none⟩ = some (.slice pa2 pn2 pc2)) ∧ (convert 30 9 (.slice a la ca)).run Try.prog Y = .ok (.string ⟨La.toArray⟩) Y ∧ (convert 30 9 (.slice b lb cb)).run Try.prog Y = .ok (.string ⟨La.toArray⟩) Y from ⟨bb, sep7 (blk_on K5.out bb), sep7 (blk_on K7.out bb), (HA.out.later bb).reads.now, (HB.out.later bb).reads.now⟩))
            refine wp_region_held_drew (S := fun Y => Below X7.heap.size X7 Y ∧ (Y.cell? ⟨i5, 0, none⟩ = some (.int .i64 fr) ∧ Y.cell? ⟨i5, 1, none⟩ = some (.int .i64 tz) ∧ Y.cell? ⟨i5, 2, none⟩ = some (.int .i64 o) ∧ Y.cell? ⟨i5, 3, none⟩ = some (.int .i64 lf) ∧ Y.cell? ⟨i5, 4, none⟩ = some (.int .i64 n) ∧ Y.cell? ⟨i5, 5, none⟩ = some (.int .i64 tn) ∧ Y.cell? ⟨i5, 6, none⟩ = some (.slice pa pn pc)) ∧ (Y.cell? ⟨i7, 0, none⟩ = some (.int .i64 fr2) ∧ Y.cell? ⟨i7, 1, none⟩ = some (.int .i64 tz2) ∧ Y.cell? ⟨i7, 2, none⟩ = some (.int .i64 o2) ∧ Y.cell? ⟨i7, 3, none⟩ = some (.int .i64 lf2) ∧ Y.cell? ⟨i7, 4, none⟩ = some (.int .i64 n2) ∧ Y.cell? ⟨i7, 5, none⟩ = some (.int .i64 tn2) ∧ Y.cell? ⟨i7, 6, none⟩ = some (.slice pa2 pn2 pc2)) ∧ (convert 30 9 (.slice a la ca)).run Try.prog Y = .ok (.string ⟨La.toArray⟩) Y ∧ (convert 30 9 (.slice b lb cb)).run Try.prog Y = .ok (.string ⟨La.toArray⟩) Y) (by kernel_rfl) (SS.out _ (Below.refl _ X7).drew) (fun hHeld => ?_)
            refine wpAnyH_take (i := 0) (v := ?_) rfl (by kernel_rfl) (by kernel_rfl) (by kernel_rfl) (fun _ _ _ h => h) (Or.inl ⟨by rfl, ?_⟩) (by assumption) ?_
            rotate_left
            · intro w hSw
              go_simp
              try with_reducible rfl
            simp only [Act.put, List.getElem_toArray, List.getElem_cons_zero, List.setIfInBounds_toArray, List.set_cons_zero, List.set_cons_succ]
            refine wpAnyH_take (i := 1) (v := ?_) rfl (by kernel_rfl) (by kernel_rfl) (by kernel_rfl) (fun _ _ _ h => h) (Or.inl ⟨by rfl, ?_⟩) (by assumption) ?_
            rotate_left
            · intro w hSw
              go_simp
              try with_reducible rfl
            simp only [Act.put, List.getElem_toArray, List.getElem_cons_zero, List.getElem_cons_succ, List.setIfInBounds_toArray, List.set_cons_zero, List.set_cons_succ]
            refine wpAnyH_take (i := 3) (v := ?_) rfl (by kernel_rfl) (by kernel_rfl) (by kernel_rfl) (fun _ _ _ h => h) (Or.inl ⟨by rfl, ?_⟩) (by assumption) ?_
            rotate_left
            · intro w hSw
              go_simp
              try with_reducible rfl
            simp only [Act.put, List.getElem_toArray, List.getElem_cons_zero, List.getElem_cons_succ, List.setIfInBounds_toArray, List.set_cons_zero, List.set_cons_succ]
            refine wpAnyH_take (i := 4) (v := .string ⟨La.toArray⟩) rfl (by kernel_rfl) (by kernel_rfl) (by kernel_rfl) (fun _ _ _ h => h) (Or.inl ⟨by rfl, ?_⟩) (by assumption) ?_
            · intro w hSw
              go_simp
              try exact hSw.2.2.2.1
            simp only [Act.put, List.getElem_toArray, List.getElem_cons_zero, List.getElem_cons_succ, List.setIfInBounds_toArray, List.set_cons_zero, List.set_cons_succ]
            refine wpAnyH_take (i := 5) (v := ?_) rfl (by kernel_rfl) (by kernel_rfl) (by kernel_rfl) (fun _ _ _ h => h) (Or.inl ⟨by rfl, ?_⟩) (by assumption) ?_
            rotate_left
            · intro w hSw
              go_simp
              try with_reducible rfl
            simp only [Act.put, List.getElem_toArray, List.getElem_cons_zero, List.getElem_cons_succ, List.setIfInBounds_toArray, List.set_cons_zero, List.set_cons_succ]
            refine wpAnyH_take (i := 6) (v := .string ⟨La.toArray⟩) rfl (by kernel_rfl) (by kernel_rfl) (by kernel_rfl) (fun _ _ _ h => h) (Or.inl ⟨by rfl, ?_⟩) (by assumption) ?_
            · intro w hSw
              go_simp
              try exact hSw.2.2.2.2
            simp only [Act.put, List.getElem_toArray, List.getElem_cons_zero, List.getElem_cons_succ, List.setIfInBounds_toArray, List.set_cons_zero, List.set_cons_succ]
            refine wpAnyH_take (i := 7) (v := .bool true) rfl (by kernel_rfl) (by kernel_rfl) (by kernel_rfl) (fun _ _ _ h => h) (Or.inl ⟨by rfl, ?_⟩) (by assumption) ?_
            · intro w hSw
              go_simp
              try exact hL
            simp only [Act.put, List.getElem_toArray, List.getElem_cons_zero, List.getElem_cons_succ, List.setIfInBounds_toArray, List.set_cons_zero, List.set_cons_succ]
            refine wpAnyH_ready (rs := [2]) (by kernel_rfl) (by simp) ?_
            refine AllReadyH.cons rfl (fun K hK => ?_) AllReadyH.nil
            go_simp
            refine (CC.out _ hHeld.1).mono ?_
            rintro e w9 ⟨rfl, bb⟩
            refine hK.out _ _ (SS.out _ (hHeld.1.trans (bb.mono hHeld.1.size))) (fun hHeld => ?_)
            clear hK K bb
            refine wpAnyH_take (i := 8) (v := .bool true) rfl (by kernel_rfl) (by kernel_rfl) (by kernel_rfl) (fun _ _ _ h => h) (Or.inl ⟨by rfl, ?_⟩) (by assumption) ?_
            · intro w hSw
              go_simp
            simp only [Act.put, List.getElem_toArray, List.getElem_cons_zero, List.getElem_cons_succ, List.setIfInBounds_toArray, List.set_cons_zero, List.set_cons_succ]
            refine wpAnyH_take (i := 9) (v := ?_) rfl (by kernel_rfl) (by kernel_rfl) (by kernel_rfl) (fun _ _ _ h => h) (Or.inl ⟨by rfl, ?_⟩) (by assumption) ?_
            rotate_left
            · intro w hSw
              go_simp
              try with_reducible rfl
            simp only [Act.put, List.getElem_toArray, List.getElem_cons_zero, List.getElem_cons_succ, List.setIfInBounds_toArray, List.set_cons_zero, List.set_cons_succ]
            refine wpAnyH_done (by kernel_rfl) ?_ _
            have BF := aside (bthen BB.out hHeld.1)
            clear hHeld
            go_wp2
            go_ret
            exact ⟨rfl, BF.out⟩
        · as_aux_lemma =>
            have hFS : ¬ FrSame fr tz o lf n tn fr2 tz2 o2 lf2 n2 tn2 P pn Q pn2 := fun h => by
              obtain ⟨⟨rfl, rfl, rfl, rfl, rfl, rfl⟩, h2⟩ := h
              have h3 := h2.ps
              rw [rd_ps HPA.out, rd_ps HPB.out] at h3
              subst h3
              exact hL (HF.out.2.2.1.trans HG.out.2.2.1.symm)
            have CC := aside (fun Y (bb : Below X7.heap.size X7 Y) => (same_any fr tz o lf n tn fr2 tz2 o2 lf2 n2 tn2 pa pn pc P pa2 pn2 pc2 Q Y (HPI.out.keep bb) (HQI.out.keep bb)).mono (fun e w' h => (show e = .returned (.bool false) ∧ Below Y.heap.size Y w' from by
              obtain ⟨⟨h1, -⟩ | ⟨-, rfl⟩, h2⟩ := h
              · exact absurd h1 hFS
              · exact ⟨rfl, h2⟩)))
            clear hFS
            have SS := aside (fun Y (bb : Below X7.heap.size X7 Y) => (show Below X7.heap.size X7 Y ∧ (Y.cell? ⟨i5, 0, none⟩ = some (.int .i64 fr) ∧ Y.cell? ⟨i5, 1, none⟩ = some (.int .i64 tz) ∧ Y.cell? ⟨i5, 2, none⟩ = some (.int .i64 o) ∧ Y.cell? ⟨i5, 3, none⟩ = some (.int .i64 lf) ∧ Y.cell? ⟨i5, 4, none⟩ = some (.int .i64 n) ∧ Y.cell? ⟨i5, 5, none⟩ = some (.int .i64 tn) ∧ Y.cell? ⟨i5, 6, none⟩ = some (.slice pa pn pc)) ∧ (Y.cell? ⟨i7, 0, none⟩ = some (.int .i64 fr2) ∧ Y.cell? ⟨i7, 1, none⟩ = some (.int .i64 tz2) ∧ Y.cell? ⟨i7, 2, none⟩ = some (.int .i64 o2) ∧ Y.cell? ⟨i7, 3, none⟩ = some (.int .i64 lf2) ∧ Y.cell? ⟨i7, 4, none⟩ = some (.int .i64 n2) ∧ Y.cell? ⟨i7, 5, none⟩ = some (.int .i64 tn2) ∧ Y.cell? ⟨i7, 6, none⟩ = some (.slice pa2 pn2 pc2)) ∧ (convert 30 9 (.slice a la ca)).run Try.prog Y = .ok (.string ⟨La.toArray⟩) Y ∧ (convert 30 9 (.slice b lb cb)).run Try.prog Y = .ok (.string ⟨Lb.toArray⟩) Y from ⟨bb, sep7 (blk_on K5.out bb), sep7 (blk_on K7.out bb), (HA.out.later bb).reads.now, (HB.out.later bb).reads.now⟩))
            refine wp_region_held_drew (S := fun Y => Below X7.heap.size X7 Y ∧ (Y.cell? ⟨i5, 0, none⟩ = some (.int .i64 fr) ∧ Y.cell? ⟨i5, 1, none⟩ = some (.int .i64 tz) ∧ Y.cell? ⟨i5, 2, none⟩ = some (.int .i64 o) ∧ Y.cell? ⟨i5, 3, none⟩ = some (.int .i64 lf) ∧ Y.cell? ⟨i5, 4, none⟩ = some (.int .i64 n) ∧ Y.cell? ⟨i5, 5, none⟩ = some (.int .i64 tn) ∧ Y.cell? ⟨i5, 6, none⟩ = some (.slice pa pn pc)) ∧ (Y.cell? ⟨i7, 0, none⟩ = some (.int .i64 fr2) ∧ Y.cell? ⟨i7, 1, none⟩ = some (.int .i64 tz2) ∧ Y.cell? ⟨i7, 2, none⟩ = some (.int .i64 o2) ∧ Y.cell? ⟨i7, 3, none⟩ = some (.int .i64 lf2) ∧ Y.cell? ⟨i7, 4, none⟩ = some (.int .i64 n2) ∧ Y.cell? ⟨i7, 5, none⟩ = some (.int .i64 tn2) ∧ Y.cell? ⟨i7, 6, none⟩ = some (.slice pa2 pn2 pc2)) ∧ (convert 30 9 (.slice a la ca)).run Try.prog Y = .ok (.string ⟨La.toArray⟩) Y ∧ (convert 30 9 (.slice b lb cb)).run Try.prog Y = .ok (.string ⟨Lb.toArray⟩) Y) (by kernel_rfl) (SS.out _ (Below.refl _ X7).drew) (fun hHeld => ?_)
            refine wpAnyH_take (i := 0) (v := ?_) rfl (by kernel_rfl) (by kernel_rfl) (by kernel_rfl) (fun _ _ _ h => h) (Or.inl ⟨by rfl, ?_⟩) (by assumption) ?_
            rotate_left
            · intro w hSw
              go_simp
              try with_reducible rfl
            simp only [Act.put, List.getElem_toArray, List.getElem_cons_zero, List.setIfInBounds_toArray, List.set_cons_zero, List.set_cons_succ]
            refine wpAnyH_take (i := 1) (v := ?_) rfl (by kernel_rfl) (by kernel_rfl) (by kernel_rfl) (fun _ _ _ h => h) (Or.inl ⟨by rfl, ?_⟩) (by assumption) ?_
            rotate_left
            · intro w hSw
              go_simp
              try with_reducible rfl
            simp only [Act.put, List.getElem_toArray, List.getElem_cons_zero, List.getElem_cons_succ, List.setIfInBounds_toArray, List.set_cons_zero, List.set_cons_succ]
            refine wpAnyH_take (i := 3) (v := ?_) rfl (by kernel_rfl) (by kernel_rfl) (by kernel_rfl) (fun _ _ _ h => h) (Or.inl ⟨by rfl, ?_⟩) (by assumption) ?_
            rotate_left
            · intro w hSw
              go_simp
              try with_reducible rfl
            simp only [Act.put, List.getElem_toArray, List.getElem_cons_zero, List.getElem_cons_succ, List.setIfInBounds_toArray, List.set_cons_zero, List.set_cons_succ]
            refine wpAnyH_take (i := 4) (v := .string ⟨La.toArray⟩) rfl (by kernel_rfl) (by kernel_rfl) (by kernel_rfl) (fun _ _ _ h => h) (Or.inl ⟨by rfl, ?_⟩) (by assumption) ?_
            · intro w hSw
              go_simp
              try exact hSw.2.2.2.1
            simp only [Act.put, List.getElem_toArray, List.getElem_cons_zero, List.getElem_cons_succ, List.setIfInBounds_toArray, List.set_cons_zero, List.set_cons_succ]
            refine wpAnyH_take (i := 5) (v := ?_) rfl (by kernel_rfl) (by kernel_rfl) (by kernel_rfl) (fun _ _ _ h => h) (Or.inl ⟨by rfl, ?_⟩) (by assumption) ?_
            rotate_left
            · intro w hSw
              go_simp
              try with_reducible rfl
            simp only [Act.put, List.getElem_toArray, List.getElem_cons_zero, List.getElem_cons_succ, List.setIfInBounds_toArray, List.set_cons_zero, List.set_cons_succ]
            refine wpAnyH_take (i := 6) (v := .string ⟨Lb.toArray⟩) rfl (by kernel_rfl) (by kernel_rfl) (by kernel_rfl) (fun _ _ _ h => h) (Or.inl ⟨by rfl, ?_⟩) (by assumption) ?_
            · intro w hSw
              go_simp
              try exact hSw.2.2.2.2
            simp only [Act.put, List.getElem_toArray, List.getElem_cons_zero, List.getElem_cons_succ, List.setIfInBounds_toArray, List.set_cons_zero, List.set_cons_succ]
            refine wpAnyH_take (i := 7) (v := .bool false) rfl (by kernel_rfl) (by kernel_rfl) (by kernel_rfl) (fun _ _ _ h => h) (Or.inl ⟨by rfl, ?_⟩) (by assumption) ?_
            · intro w hSw
              go_simp
              try exact hL
            simp only [Act.put, List.getElem_toArray, List.getElem_cons_zero, List.getElem_cons_succ, List.setIfInBounds_toArray, List.set_cons_zero, List.set_cons_succ]
            refine wpAnyH_ready (rs := [2]) (by kernel_rfl) (by simp) ?_
            refine AllReadyH.cons rfl (fun K hK => ?_) AllReadyH.nil
            go_simp
            refine (CC.out _ hHeld.1).mono ?_
            rintro e w9 ⟨rfl, bb⟩
            refine hK.out _ _ (SS.out _ (hHeld.1.trans (bb.mono hHeld.1.size))) (fun hHeld => ?_)
            clear hK K bb
            refine wpAnyH_take (i := 8) (v := .bool true) rfl (by kernel_rfl) (by kernel_rfl) (by kernel_rfl) (fun _ _ _ h => h) (Or.inl ⟨by rfl, ?_⟩) (by assumption) ?_
            · intro w hSw
              go_simp
            simp only [Act.put, List.getElem_toArray, List.getElem_cons_zero, List.getElem_cons_succ, List.setIfInBounds_toArray, List.set_cons_zero, List.set_cons_succ]
            refine wpAnyH_take (i := 9) (v := ?_) rfl (by kernel_rfl) (by kernel_rfl) (by kernel_rfl) (fun _ _ _ h => h) (Or.inl ⟨by rfl, ?_⟩) (by assumption) ?_
            rotate_left
            · intro w hSw
              go_simp
              try with_reducible rfl
            simp only [Act.put, List.getElem_toArray, List.getElem_cons_zero, List.getElem_cons_succ, List.setIfInBounds_toArray, List.set_cons_zero, List.set_cons_succ]
            refine wpAnyH_done (by kernel_rfl) ?_ _
            have BF := aside (bthen BB.out hHeld.1)
            clear hHeld
            go_wp2
            go_ret
            exact ⟨rfl, BF.out⟩
end Go.Proofs.Ytbnppmkdhnpdfaa
